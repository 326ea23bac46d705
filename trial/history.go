package trial

import (
	"hourglass/api"
	"hourglass/arena"
	"hourglass/author"
	"hourglass/op"
	"hourglass/past"
	"hourglass/step"
)

// Little has the modules m, which is 2, and main; 5 is the Return of m.f, 6 the
// 1 in it.
const Little = "module m { func f() int { return 1; } } module main { func main() int { let x int = m.f(); return x; } }"

// LittleNamed is Little with another name of m.
func LittleNamed(name string) string {
	return "module " + name + " { func f() int { return 1; } } module main { func main() int { let x int = " + name + ".f(); return x; } }"
}

// Rename renames the module m of Little.
func Rename(name string) op.Op {
	return op.Op{Kind: op.RenameModule, A: 2, Name: name}
}

func Add(name string) op.Op {
	return op.Op{Kind: op.AddModule, Name: name}
}

// Made is the first node that a stamp has made.
func Made(stamp uint32) api.ID {
	return api.ID(stamp)*65536 + 1
}

// Drop drops the module that a stamp has added.
func Drop(stamp uint32) op.Op {
	return op.Op{Kind: op.DropModule, A: Made(stamp)}
}

// Short returns a random program of up to 80 nodes, so that operations often
// depend on each other.
func Short(t T, below func(n int) int) *arena.Arena {
	t.Helper()
	a := Right(t, author.Program(below))
	for a.Len() > 80 {
		a = Right(t, author.Program(below))
	}
	return a
}

// WantKept expects that a past's program does what its base does, unless it may
// need far more fuel.
func WantKept(t T, below func(n int) int, p *past.Past) {
	t.Helper()
	const most = 1000
	times := 1
	for _, s := range p.Live() {
		times = min(times*step.Grows(s.Op), most)
	}
	if times < most {
		WantAlike(t, p.Base(), p.Now(), Input(below), 1000, times)
	}
}

func WantErrno(t T, what string, got, want api.Errno) {
	t.Helper()
	if got != want {
		t.Errorf("%s: error %d, want %d", what, got, want)
	}
}

// WantCause is for the calls that also return a stamp.
func WantCause(t T, what string, stamp uint32, e api.Errno, wantStamp uint32, want api.Errno) {
	t.Helper()
	if stamp != wantStamp || e != want {
		t.Errorf("%s: %d, error %d, want %d, error %d", what, stamp, e, wantStamp, want)
	}
}

// Spoil changes a slice, also where it is longer than it tells.
func Spoil[E any](l []E, with E) {
	l = l[:cap(l)]
	for i := range l {
		l[i] = with
	}
}
