package fs

import (
	"bytes"

	"mailbag/alloc"
	"mailbag/api"
	"mailbag/codec"
	"mailbag/inode"
)

// Where things stand in the log's blocks.
const (
	ownAt    = 0 // the block that tells that this is a file system
	nodesAt  = 1
	nodeSize = 64 // bytes of an inode
	perBlock = api.Block / nodeSize
	mapAt    = nodesAt + api.MaxInodes/perBlock
)

const (
	mark = "mailbag fs 1"
	root = 0    // the root's inode: no name has it
	none = root // instead of a file's inode: there is no file
)

// pool hands out the data blocks, where a log keeps so many blocks.
func pool(kept int) alloc.Pool {
	rest, maps := kept-mapAt, 1
	for (alloc.Pool{N: rest - maps}).Maps() > maps {
		maps++
	}
	return alloc.Pool{Map: mapAt, First: mapAt + maps, N: rest - maps}
}

// layOwn is the block that is there behind Mkfs.
func layOwn(kept int) []byte {
	w := codec.NewWriter()
	w.Fixed([]byte(mark), len(mark))
	w.U32(kept)
	whole := codec.NewWriter()
	whole.Fixed(w.Done(), api.Block)
	return whole.Done()
}

// lay makes a file system of a log whose blocks are bytes 0.
func (a *act) lay() api.Errno {
	if e := a.txn.Write(ownAt, layOwn(a.fs.log.Blocks())); e != api.OK {
		return e
	}
	blank := bytes.Repeat(inode.Encode(inode.Node{}), perBlock)
	for at := nodesAt; at < mapAt; at++ {
		if e := a.txn.Write(at, blank); e != api.OK {
			return e
		}
	}
	if e := a.setNode(root, fresh(inode.Dir)); e != api.OK {
		return e
	}
	return a.data.Clear(a.txn)
}

func fresh(kind int) inode.Node { return inode.Node{Kind: kind, Links: 1} }
