package op_test

import (
	"bytes"
	"math/rand"
	"slices"
	"strings"
	"testing"

	"hourglass/api"
	"hourglass/op"
)

func wantBytes(t *testing.T, o op.Op, want ...byte) {
	t.Helper()
	if got := o.Bytes(); !bytes.Equal(got, want) {
		t.Errorf("Bytes of %v: % x, want % x", o, got, want)
	}
	if got, e := op.Parse(want); got != o || e != api.OK {
		t.Errorf("Parse of % x: %v, error %d, want %v", want, got, e, o)
	}
}

func wantNoParse(t *testing.T, p ...byte) {
	t.Helper()
	if got, e := op.Parse(p); got != (op.Op{}) || e != api.ErrForm {
		t.Errorf("Parse of % x: %v, error %d, want ErrForm", p, got, e)
	}
}

func TestBytes(t *testing.T) {
	wantBytes(t, op.Op{Kind: op.RenameModule, A: 2, Name: "m"}, 1, 2, 0, 1, 'm')
	wantBytes(t, op.Op{Kind: op.RenameFunc, A: 127, Name: "ab"}, 2, 0x7f, 0, 2, 'a', 'b')
	wantBytes(t, op.Op{Kind: op.RenameParam, A: 128, Name: "_"}, 3, 0x80, 1, 0, 1, '_')
	wantBytes(t, op.Op{Kind: op.RenameLet, A: 300, Name: "x"}, 4, 0xac, 2, 0, 1, 'x')
	wantBytes(t, op.Op{Kind: op.MoveFunc, A: 3, B: 300}, 5, 3, 0xac, 2, 0)
	wantBytes(t, op.Op{Kind: op.ExtractLet, A: 9, Name: "x"}, 6, 9, 0, 1, 'x')
	wantBytes(t, op.Op{Kind: op.InlineLet, A: 9}, 7, 9, 0, 0)
	wantBytes(t, op.Op{Kind: op.ExtractFunc, A: 300, B: 2, Name: "f0"}, 8, 0xac, 2, 2, 2, 'f', '0')
	wantBytes(t, op.Op{Kind: op.InlineCall, A: 65537}, 9, 0x81, 0x80, 4, 0, 0)
	wantBytes(t, op.Op{Kind: op.AddModule, Name: "m"}, 10, 0, 0, 1, 'm')
	wantBytes(t, op.Op{Kind: op.DropModule, A: 2}, 11, 2, 0, 0)
	wantBytes(t, op.Op{Kind: op.DropFunc, A: 2}, 12, 2, 0, 0)
	wantBytes(t, op.Op{Kind: op.FlipIf, A: 2}, 13, 2, 0, 0)
	wantBytes(t, op.Op{Kind: op.SwapParts, A: largest}, 14, 255, 255, 255, 255, 255, 255, 255, 255, 255, 1, 0, 0)
	wantBytes(t, op.Op{Kind: op.AddModule, Name: longest}, append([]byte{10, 0, 0, 64}, longest...)...)
}

func TestBytesOfAll(t *testing.T) {
	for _, o := range rights() {
		wantBytes(t, o, o.Bytes()...)
	}
	for _, o := range wrongs() {
		if p := o.Bytes(); len(p) > 0 {
			t.Errorf("Bytes of %v: % x", o, p)
		}
	}
}

func TestParseErrors(t *testing.T) {
	wantNoParse(t)
	wantNoParse(t, 0)
	wantNoParse(t, 0, 0, 0, 0)
	wantNoParse(t, 15, 1, 0, 0)
	wantNoParse(t, 255, 1, 0, 0)
	wantNoParse(t, 7, 0, 0, 0)                                                         // without A
	wantNoParse(t, 7, 1, 1, 0)                                                         // with B
	wantNoParse(t, 7, 1, 0, 1, 'x')                                                    // with a Name
	wantNoParse(t, 7, 1, 0)                                                            // without the length of its Name
	wantNoParse(t, 7, 1, 0, 0, 0)                                                      // with more
	wantNoParse(t, 7, 0x81, 0, 0, 0)                                                   // A is not as short as possible
	wantNoParse(t, 5, 1, 0x82, 0, 0)                                                   // nor is B
	wantNoParse(t, 1, 2, 0, 0x81, 0, 'm')                                              // nor the length
	wantNoParse(t, 5, 0, 2, 0)                                                         // without A
	wantNoParse(t, 5, 1, 0, 0)                                                         // without B
	wantNoParse(t, 8, 1, 0, 1, 'f')                                                    // without B
	wantNoParse(t, 8, 1, 2, 0)                                                         // without a Name
	wantNoParse(t, 10, 1, 0, 1, 'm')                                                   // with A
	wantNoParse(t, 10, 0, 1, 1, 'm')                                                   // with B
	wantNoParse(t, 10, 0, 0, 2, 'm')                                                   // with too short a Name
	wantNoParse(t, 7, 255, 255, 255, 255, 255, 255, 255, 255, 255, 2, 0, 0)            // A is 2^64 or more
	wantNoParse(t, 5, 1, 255, 255, 255, 255, 255, 255, 255, 255, 255, 255, 1, 0)       // B is
	wantNoParse(t, append([]byte{10, 0, 0, 65}, strings.Repeat("x", 65)...)...)        // too long a Name
	wantNoParse(t, append([]byte{10, 0, 0, 0xe8, 7}, strings.Repeat("x", 1000)...)...) // far too long a Name
	for _, name := range notNames {
		wantNoParse(t, append([]byte{10, 0, 0, byte(len(name))}, name...)...)
	}
}

// TestParseIsTheInverse: of whatever bytes, Parse accepts those only that
// Bytes returns.
func TestParseIsTheInverse(t *testing.T) {
	accepted := 0
	try := func(p []byte) {
		before := slices.Clone(p)
		o, e := op.Parse(p)
		if e == api.OK {
			accepted++
		}
		if e == api.OK && (!o.Right() || !bytes.Equal(o.Bytes(), p)) {
			t.Errorf("Parse of % x: %v, whose Bytes are % x", p, o, o.Bytes())
		}
		if e != api.OK && (e != api.ErrForm || o != op.Op{}) {
			t.Errorf("Parse of % x: %v, error %d", p, o, e)
		}
		if !bytes.Equal(p, before) {
			t.Errorf("Parse has changed % x", before)
		}
	}
	r := rand.New(rand.NewSource(1))
	for _, o := range rights() {
		p := o.Bytes()
		for i := range p {
			try(p[:i])
			for range 20 {
				q := slices.Clone(p)
				q[i] = byte(r.Intn(256))
				try(q)
			}
			try(slices.Delete(slices.Clone(p), i, i+1))
			try(slices.Insert(slices.Clone(p), i, byte(r.Intn(256))))
		}
		try(append(p, byte(r.Intn(256))))
	}
	if accepted < 1000 {
		t.Error("only", accepted, "were accepted")
	}
}

// TestParseOfShort tries all short rows of small bytes.
func TestParseOfShort(t *testing.T) {
	want := map[string]op.Op{}
	for kind := range byte(17) {
		for a := range api.ID(4) {
			for b := range api.ID(4) {
				for _, name := range []string{"", "a"} {
					o := op.Op{Kind: kind, A: a, B: b, Name: name}
					if o.Right() {
						want[string(o.Bytes())] = o
					}
				}
			}
		}
	}
	found := 0
	row := func(p ...byte) {
		o, e := op.Parse(p)
		expected, ok := want[string(p)]
		if ok {
			found++
		}
		if o != expected || (e == api.OK) != ok {
			t.Errorf("Parse of % x: %v, error %d", p, o, e)
		}
	}
	for kind := range byte(17) {
		for a := range byte(4) {
			for b := range byte(4) {
				for size := range byte(4) {
					row(kind, a, b, size)
					row(kind, a, b, size, 'a')
				}
			}
		}
	}
	if found != len(want) {
		t.Errorf("found %d of %d", found, len(want))
	}
}

func TestBytesAreNew(t *testing.T) {
	o := op.Op{Kind: op.RenameLet, A: 300, Name: "x"}
	p := o.Bytes()
	want := slices.Clone(p)
	spoil := func(p []byte) {
		p = p[:cap(p)]
		for i := range p {
			p[i] = 0xee
		}
	}
	spoil(p)
	if got := o.Bytes(); !bytes.Equal(got, want) {
		t.Errorf("% x, then % x", want, got)
	}
	read := slices.Clone(want)
	got, _ := op.Parse(read)
	spoil(read)
	if got != o {
		t.Errorf("Parse has kept its argument: %v", got)
	}
}
