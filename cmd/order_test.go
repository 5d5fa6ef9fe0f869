package cmd

import (
	"strings"
	"testing"
)

// TestCodesInOrder: where more than one code could be meant, each as the document's words order them.
func TestCodesInOrder(t *testing.T) {
	long := "<" + strings.Repeat("x", 65) + "@b>"
	for s, code := range map[string]int{
		// A byte that may not be: ahead of all.
		"foo \x7f": 500, "helo \x00": 500, "mail from:<a> \x80": 500, "mail from:<a@b> \xff": 500, "rcpt to:<a@b> size=1\t": 500, "rcpt to:<>\x1f": 500, "data \x1f": 500, "vrfy \x7f": 500, "mail from:" + long + "\n": 500,
		// No word: ahead of what stands behind it.
		"foo from:<a@b> x": 500, " mail from:<a@b> x": 500, "maill from:<a>": 500, "mailfrom:<a@b> x": 500, "rcpt\tto:<a@b>": 500, "dat a": 500, "dataa x": 500,
		// No path, or one that is too long: ahead of a blank behind it.
		"mail from:<a> x": 501, "mail from:" + long + " x": 501, "mail from:" + long + " size=1": 501, "mail from:" + long + " ": 501, "rcpt to:<a> x": 501, "rcpt to:" + long + " x": 501, "mail from: x <a@b> x": 501, "mail frm:<a@b> x": 501, "rcpt from:<a@b> x": 501,
		// The null path of rcpt: ahead of a blank behind it.
		"rcpt to:<>": 501, "rcpt to:<> x": 501, "rcpt to:<> size=1": 501, "rcpt to:<>x": 501,
		// A byte behind the path that is no blank: ahead of one behind that.
		"mail from:<a@b>x y": 501, "mail from:<a@b>x size=1": 501, "mail from:<a@b>size=1 x": 501, "mail from:<>x y": 501, "rcpt to:<a@b>x y": 501,
		// A blank behind the path, and no size: whatever it is.
		"mail from:<a@b> x": 555, "mail from:<a@b> size=x": 555, "mail from:<a@b> size=1 x": 555, "mail from:<> x": 555, "rcpt to:<a@b> x": 555, "rcpt to:<a@b> size=1": 555, "mail from:<a@b>  size=1": 555,
		// Other kinds know no 555.
		"helo a size=1": 501, "ehlo a x": 501, "data size=1": 501, "rset <a@b> x": 501, "quit from:<a@b> x": 501,
	} {
		fails(t, s, code)
	}
}
