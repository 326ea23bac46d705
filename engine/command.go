package engine

import (
	"math"

	"hourglass/api"
	"hourglass/branch"
	"hourglass/op"
	"hourglass/tape"
)

// The kinds of records: a checkpoint has a book, each of the others a command.
const (
	checkpoint byte = iota + 1
	doing
	undoing
	redoing
	forking
	switching
	merging
)

// command is what a book is to do, and the record that says so.
type command struct {
	record []byte
	run    func(b *branch.Book) (uint32, api.Errno)
}

// with makes a command of a method and what it is given.
func with[A any](method func(b *branch.Book, given A) (uint32, api.Errno), given A, record []byte) command {
	return command{
		record: record,
		run:    func(b *branch.Book) (uint32, api.Errno) { return method(b, given) },
	}
}

// silent is for methods that return no stamp.
func silent(method func(b *branch.Book, name string) api.Errno) func(*branch.Book, string) (uint32, api.Errno) {
	return func(b *branch.Book, name string) (uint32, api.Errno) { return 0, method(b, name) }
}

func do(o op.Op) command {
	return with((*branch.Book).Do, o, append([]byte{doing}, o.Bytes()...))
}

// turn makes an operation live, or no longer.
func turn(kind byte, stamp uint32) command {
	method := (*branch.Book).Undo
	if kind == redoing {
		method = (*branch.Book).Redo
	}
	return with(method, stamp, new(tape.Writer).Byte(kind).Num(uint64(stamp)).Bytes())
}

// visit goes to a branch, or makes or takes one.
func visit(kind byte, name string) command {
	method := (*branch.Book).Merge
	switch kind {
	case forking:
		method = silent((*branch.Book).Fork)
	case switching:
		method = silent((*branch.Book).Switch)
	}
	return with(method, name, new(tape.Writer).Byte(kind).Text(name).Bytes())
}

// read returns the command that a record is, and whether it is one.
func read(record []byte) (command, bool) {
	r := tape.Read(record)
	switch kind := r.Byte(); kind {
	case doing:
		o, errno := op.Parse(record[1:])
		return do(o), errno == api.OK
	case undoing, redoing:
		c := turn(kind, uint32(r.Num(math.MaxUint32)))
		return c, r.Done() == api.OK
	case forking, switching, merging:
		c := visit(kind, r.Text(r.Left()))
		return c, r.Done() == api.OK
	}
	return command{}, false
}

func checkpointOf(book *branch.Book) []byte {
	return append([]byte{checkpoint}, book.Bytes()...)
}

// replay returns the book that the records of a log make.
func replay(records [][]byte) (*branch.Book, api.Errno) {
	if len(records) == 0 || tape.Read(records[0]).Byte() != checkpoint {
		return nil, api.ErrForm
	}
	book, errno := branch.Parse(records[0][1:])
	if errno != api.OK {
		return nil, errno
	}
	for _, record := range records[1:] {
		c, ok := read(record)
		if !ok {
			return nil, api.ErrForm
		}
		if _, errno := c.run(book); errno != api.OK {
			return nil, api.ErrForm
		}
	}
	return book, api.OK
}
