package word

import (
	"bytes"
	"math"
	"math/big"
	"testing"
)

type (
	ownByte uint8
	ownHalf uint16
	ownWord uint32
	ownLong uint64
)

// edges are numbers at which the four sizes begin and end, and some between.
func edges() []uint64 {
	out := []uint64{3, 7, 10, 4095, 4096, 0x1234, 0x12345678, 0x123456789ABCDEF0}
	for bit := range 64 {
		n := uint64(1) << bit
		out = append(out, n-1, n, n+1)
	}
	return append(out, math.MaxUint64-1, math.MaxUint64)
}

// fitting are those edges that the type has.
func fitting[N Number]() []N {
	var out []N
	for _, e := range edges() {
		if uint64(N(e)) == e {
			out = append(out, N(e))
		}
	}
	return out
}

func testPutGet[N Number](t *testing.T, width int) {
	for _, n := range fitting[N]() {
		want := []byte{9, 8}
		for i := range width {
			want = append(want, byte(uint64(n)>>(8*i)))
		}
		if got := Put([]byte{9, 8}, n); !bytes.Equal(got, want) {
			t.Errorf("Put of %T(%d): %v, not %v", n, n, got, want)
		}
		laid := Put(nil, n)
		for keep := range width {
			if got, ok := Get[N](laid[:keep]); got != 0 || ok {
				t.Errorf("Get of %d of %d bytes: %v %v", keep, width, got, ok)
			}
		}
		for _, tail := range [][]byte{nil, {0}, {255, 255, 255, 255, 255, 255, 255, 255, 255}} {
			if got, ok := Get[N](append(bytes.Clone(laid), tail...)); got != n || !ok {
				t.Errorf("Get of what Put made of %T(%d): %v %v", n, n, got, ok)
			}
		}
	}
	if got, ok := Get[N](nil); got != 0 || ok {
		t.Errorf("Get of no bytes: %v %v", got, ok)
	}
}

// P1.1: of all four sizes, types of one's own among them.
func TestPutGet(t *testing.T) {
	testPutGet[uint8](t, 1)
	testPutGet[uint16](t, 2)
	testPutGet[uint32](t, 4)
	testPutGet[uint64](t, 8)
	testPutGet[ownByte](t, 1)
	testPutGet[ownHalf](t, 2)
	testPutGet[ownWord](t, 4)
	testPutGet[ownLong](t, 8)
}

func TestPutGetOfEveryHalf(t *testing.T) {
	for n := range 1 << 16 {
		if got, ok := Get[uint16](Put(nil, uint16(n))); got != uint16(n) || !ok {
			t.Fatalf("%d came back as %v %v", n, got, ok)
		}
	}
}

func TestPutRuns(t *testing.T) {
	if b := Put([]byte{7}, uint16(0x1234)); !bytes.Equal(b, []byte{7, 0x34, 0x12}) {
		t.Errorf("Put: %v", b)
	}
	if b := Put(nil, uint64(1)); len(b) != 8 || b[0] != 1 {
		t.Errorf("Put: %v", b)
	}
	if n, ok := Get[uint32]([]byte{1, 2, 3}); n != 0 || ok {
		t.Errorf("Get: %v %v", n, ok)
	}
}

// R2: what is handed in stays, its spare room too, and the answer shares nothing with it.
func TestPutLeavesWhatIsHandedIn(t *testing.T) {
	room := []byte{1, 2, 0xEE, 0xEE, 0xEE, 0xEE, 0xEE, 0xEE, 0xEE, 0xEE}
	was := bytes.Clone(room)
	b := room[:2]
	first := Put(b, uint64(0))
	second := Put(b, uint32(0x01020304))
	if !bytes.Equal(room, was) {
		t.Errorf("Put changed what it was given: %v", room)
	}
	first[0], second[1] = 77, 77
	whole := first[:cap(first)]
	for i := range whole {
		whole[i] = 78
	}
	if !bytes.Equal(room, was) || second[0] != 1 {
		t.Errorf("an answer of Put shares memory")
	}
	room[0], room[1] = 5, 5
	if second[0] != 1 {
		t.Errorf("Put kept what it was given")
	}
}

func testTo[N, M Number](t *testing.T) {
	for _, m := range fitting[M]() {
		want, fits := N(m), uint64(N(m)) == uint64(m)
		if !fits {
			want = 0
		}
		if got, ok := To[N](m); got != want || ok != fits {
			t.Errorf("To[%T](%T(%d)): %v %v", want, m, m, got, ok)
		}
	}
}

func testToAll[N Number](t *testing.T) {
	testTo[N, uint8](t)
	testTo[N, uint16](t)
	testTo[N, uint32](t)
	testTo[N, uint64](t)
	testTo[N, ownByte](t)
	testTo[N, ownLong](t)
}

// P1.2: between all kinds.
func TestTo(t *testing.T) {
	testToAll[uint8](t)
	testToAll[uint16](t)
	testToAll[uint32](t)
	testToAll[uint64](t)
	testToAll[ownHalf](t)
	testToAll[ownWord](t)
	if n, ok := To[uint8](uint16(255)); n != 255 || !ok {
		t.Errorf("To: %v %v", n, ok)
	}
	if n, ok := To[uint8](uint16(256)); n != 0 || ok {
		t.Errorf("To: %v %v", n, ok)
	}
}

// holdAgainst compares an answer with the exact number.
func holdAgainst[N Number](t *testing.T, what string, a, b, got N, ok bool, exact *big.Int) {
	t.Helper()
	most := new(big.Int).SetUint64(uint64(^N(0)))
	fits := exact.Sign() >= 0 && exact.Cmp(most) <= 0
	want := N(0)
	if fits {
		want = N(exact.Uint64())
	}
	if got != want || ok != fits {
		t.Errorf("%s(%T(%d), %d): %v %v, exactly it is %v", what, a, a, b, got, ok, exact)
	}
}

func exactUp(n, align *big.Int) *big.Int {
	if align.Sign() == 0 {
		return big.NewInt(-1) // none
	}
	up := new(big.Int).Add(n, align)
	up.Sub(up, big.NewInt(1))
	up.Div(up, align)
	return up.Mul(up, align)
}

func testSums[N Number](t *testing.T, all []N) {
	for _, a := range all {
		for _, b := range all {
			x, y := new(big.Int).SetUint64(uint64(a)), new(big.Int).SetUint64(uint64(b))
			n, ok := Add(a, b)
			holdAgainst(t, "Add", a, b, n, ok, new(big.Int).Add(x, y))
			n, ok = Sub(a, b)
			holdAgainst(t, "Sub", a, b, n, ok, new(big.Int).Sub(x, y))
			n, ok = Mul(a, b)
			holdAgainst(t, "Mul", a, b, n, ok, new(big.Int).Mul(x, y))
			n, ok = Up(a, b)
			holdAgainst(t, "Up", a, b, n, ok, exactUp(x, y))
		}
	}
}

// P1.3: held against numbers without bounds, at the edges of all kinds.
func TestSums(t *testing.T) {
	testSums(t, fitting[uint8]())
	testSums(t, fitting[uint16]())
	testSums(t, fitting[uint32]())
	testSums(t, fitting[uint64]())
	testSums(t, fitting[ownByte]())
	testSums(t, fitting[ownHalf]())
	testSums(t, fitting[ownWord]())
	testSums(t, fitting[ownLong]())
}

func TestSumsOfEveryByte(t *testing.T) {
	all := make([]uint8, 256)
	for i := range all {
		all[i] = uint8(i)
	}
	testSums(t, all)
}

func TestSumRuns(t *testing.T) {
	if n, ok := Add(uint16(65535), uint16(1)); n != 0 || ok {
		t.Errorf("Add: %v %v", n, ok)
	}
	if n, ok := Sub(uint8(3), uint8(4)); n != 0 || ok {
		t.Errorf("Sub: %v %v", n, ok)
	}
	if n, ok := Mul(uint32(65536), uint32(65536)); n != 0 || ok {
		t.Errorf("Mul: %v %v", n, ok)
	}
	if n, ok := Up(uint8(250), uint8(16)); n != 0 || ok {
		t.Errorf("Up: %v %v", n, ok)
	}
	if n, ok := Up(uint8(240), uint8(16)); n != 240 || !ok {
		t.Errorf("Up: %v %v", n, ok)
	}
	if n, ok := Up(uint64(0), uint64(0)); n != 0 || ok {
		t.Errorf("Up: %v %v", n, ok)
	}
}
