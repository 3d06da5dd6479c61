package whole_test

import (
	"bytes"
	"math"
	"math/big"
	"testing"

	"quittance/api"
	"quittance/octet"
	"quittance/whole"
)

// num returns the integer with that sign and those bytes, in hexadecimal digits, as they are.
func num(t *testing.T, below bool, hex string) whole.Num {
	t.Helper()
	b, e := octet.Unhex(hex)
	if e != api.OK {
		t.Fatal(hex, e)
	}
	return whole.Num{Below: below, Size: b}
}

// fromBig returns x as an integer.
func fromBig(x *big.Int) whole.Num { return whole.Num{Below: x.Sign() < 0, Size: x.Bytes()} }

// toBig returns the value of n, whether it is represented as it must be or not.
func toBig(n whole.Num) *big.Int {
	x := new(big.Int).SetBytes(n.Size)
	if n.Below {
		x.Neg(x)
	}
	return x
}

// ofText returns the number with that text.
func ofText(t *testing.T, s string) *big.Int {
	t.Helper()
	x, ok := new(big.Int).SetString(s, 0)
	if !ok {
		t.Fatal(s)
	}
	return x
}

// power returns 2^n + k.
func power(n uint, k int64) *big.Int {
	x := new(big.Int).Lsh(big.NewInt(1), n)
	return x.Add(x, big.NewInt(k))
}

// samples returns numbers around every power of 256 up to 2^520, and some others, of both signs.
func samples() []*big.Int {
	all := []*big.Int{big.NewInt(0)}
	add := func(x *big.Int) { all = append(all, x, new(big.Int).Neg(x)) }
	for k := int64(1); k <= 3; k++ {
		add(big.NewInt(k))
	}
	for n := uint(4); n <= 520; n++ {
		if n > 72 && n%8 != 0 && n%8 != 7 {
			continue
		}
		for k := int64(-2); k <= 2; k++ {
			add(power(n, k))
		}
	}
	x := big.NewInt(7)
	for range 60 {
		x = new(big.Int).Mul(x, big.NewInt(-1000003))
		add(x)
	}
	return all
}

// is checks that n is the number want, represented as it must be.
func is(t *testing.T, what string, n whole.Num, want *big.Int) {
	t.Helper()
	if n.Below != (want.Sign() < 0) || !bytes.Equal(n.Size, want.Bytes()) {
		t.Errorf("%s: %t %x, want %s", what, n.Below, n.Size, want)
	}
	if !whole.Right(n) {
		t.Errorf("%s: %t %x is not right", what, n.Below, n.Size)
	}
}

// none checks that n is the zero value.
func none(t *testing.T, what string, n whole.Num) {
	t.Helper()
	if n.Below || len(n.Size) != 0 {
		t.Errorf("%s: %t %x beside an error", what, n.Below, n.Size)
	}
}

// loose returns the representations of n: its own one, and those that are not as they must be.
func loose(n whole.Num) []whole.Num {
	out := []whole.Num{n}
	for zeros := 1; zeros <= 9; zeros += 4 {
		out = append(out, whole.Num{Below: n.Below, Size: append(make([]byte, zeros), n.Size...)})
	}
	out = append(out, whole.Num{Below: n.Below, Size: append(make([]byte, 200), n.Size...)})
	if len(n.Size) == 0 {
		for _, x := range out {
			out = append(out, whole.Num{Below: true, Size: x.Size})
		}
	}
	return out
}

// P3.1
func TestRight(t *testing.T) {
	for _, x := range []struct {
		below bool
		hex   string
		want  bool
	}{
		{false, "", true}, {true, "", false}, {false, "00", false}, {true, "00", false}, {false, "0000", false},
		{false, "01", true}, {true, "01", true}, {false, "ff", true}, {true, "ff", true}, {false, "80", true}, {true, "80", true},
		{false, "0001", false}, {true, "0001", false}, {false, "0100", true}, {true, "0100", true}, {false, "000100", false}, {false, "00ff", false},
	} {
		if got := whole.Right(num(t, x.below, x.hex)); got != x.want {
			t.Errorf("Right(%t %s) = %t", x.below, x.hex, got)
		}
	}
	if !whole.Right(whole.Num{}) || !whole.Right(whole.Num{Size: []byte{}}) || whole.Right(whole.Num{Below: true}) {
		t.Error("Right of 0")
	}
	if whole.Right(whole.Num{Size: make([]byte, 100)}) || !whole.Right(whole.Num{Size: bytes.Repeat([]byte{1}, 100)}) {
		t.Error("Right of long ones")
	}
}

// P3.1: every other function takes leading zeros and a negative 0 as if they were absent.
func TestLooseArguments(t *testing.T) {
	for _, x := range samples() {
		own := fromBig(x)
		for _, n := range loose(own) {
			sameContents(t, n, own)
			if whole.Bits(n) != whole.Bits(own) || whole.Text(n) != whole.Text(own) {
				t.Errorf("Bits or Text of %t %x", n.Below, n.Size)
			}
			k, e := whole.Int(n)
			if wantK, wantE := whole.Int(own); k != wantK || e != wantE {
				t.Errorf("Int of %t %x = %d, %d", n.Below, n.Size, k, e)
			}
			is(t, "Neg", whole.Neg(n), new(big.Int).Neg(x))
			for _, y := range []*big.Int{new(big.Int), big.NewInt(-1), big.NewInt(256), new(big.Int).Neg(x), x} {
				for _, m := range loose(fromBig(y)) {
					is(t, "Add", whole.Add(n, m), new(big.Int).Add(x, y))
					if got := whole.Compare(n, m); got != x.Cmp(y) {
						t.Errorf("Compare(%t %x, %t %x) = %d", n.Below, n.Size, m.Below, m.Size, got)
					}
				}
			}
		}
	}
}

// sameContents checks that Contents and Write do not tell two integers apart.
func sameContents(t *testing.T, a, b whole.Num) {
	t.Helper()
	x, e := whole.Contents(a)
	y, f := whole.Contents(b)
	if !bytes.Equal(x, y) || e != f {
		t.Errorf("Contents of %t %x: %x, %d", a.Below, a.Size, x, e)
	}
	x, e = whole.Write(a)
	y, f = whole.Write(b)
	if !bytes.Equal(x, y) || e != f {
		t.Errorf("Write of %t %x: %x, %d", a.Below, a.Size, x, e)
	}
}

// edges are ints at which the sign, the length of the contents or the range changes.
var edges = []int{
	0, 1, -1, 127, 128, 129, -127, -128, -129, 254, 255, 256, 257, -254, -255, -256, -257, 65535, 65536, -65535, -65536,
	1<<31 - 1, 1 << 31, -1 << 31, 1<<55 - 1, 1 << 55, 1<<56 - 1, 1 << 56, -1 << 56,
	math.MaxInt - 1, math.MaxInt, math.MinInt, math.MinInt + 1, math.MinInt + 255, math.MaxInt - 255,
}

// P3.2
func TestOfAndInt(t *testing.T) {
	for _, k := range edges {
		n := whole.Of(k)
		is(t, "Of", n, big.NewInt(int64(k)))
		if got, e := whole.Int(n); got != k || e != api.OK {
			t.Errorf("Int(Of(%d)) = %d, %d", k, got, e)
		}
	}
}

// P3.2: all samples are an int or ErrLong.
func TestInt(t *testing.T) {
	for _, x := range samples() {
		k, e := whole.Int(fromBig(x))
		if x.IsInt64() {
			if int64(k) != x.Int64() || e != api.OK {
				t.Errorf("Int(%s) = %d, %d", x, k, e)
			}
		} else if k != 0 || e != api.ErrLong {
			t.Errorf("Int(%s) = %d, %d", x, k, e)
		}
	}
}

// P3.2: just inside, and just beyond.
func TestIntEdges(t *testing.T) {
	for _, x := range []struct {
		below bool
		hex   string
		k     int
		e     api.Errno
	}{
		{false, "7fffffffffffffff", math.MaxInt, api.OK},
		{false, "8000000000000000", 0, api.ErrLong},
		{false, "ffffffffffffffff", 0, api.ErrLong},
		{false, "010000000000000000", 0, api.ErrLong},
		{false, "010000000000000001", 0, api.ErrLong},
		{false, "00007fffffffffffffff", math.MaxInt, api.OK},
		{false, "00008000000000000000", 0, api.ErrLong},
		{true, "7fffffffffffffff", -math.MaxInt, api.OK},
		{true, "8000000000000000", math.MinInt, api.OK},
		{true, "00008000000000000000", math.MinInt, api.OK},
		{true, "8000000000000001", 0, api.ErrLong},
		{true, "ffffffffffffffff", 0, api.ErrLong},
		{true, "010000000000000000", 0, api.ErrLong},
		{true, "018000000000000000", 0, api.ErrLong},
		{true, "", 0, api.OK}, {true, "0000", 0, api.OK}, {false, "000000000000000000000000", 0, api.OK},
	} {
		if k, e := whole.Int(num(t, x.below, x.hex)); k != x.k || e != x.e {
			t.Errorf("Int(%t %s) = %d, %d", x.below, x.hex, k, e)
		}
	}
}

// P3.5
func TestBits(t *testing.T) {
	for _, x := range samples() {
		if got := whole.Bits(fromBig(x)); got != x.BitLen() {
			t.Errorf("Bits(%s) = %d", x, got)
		}
	}
	for hex, want := range map[string]int{"": 0, "00": 0, "01": 1, "0001": 1, "7f": 7, "80": 8, "ff": 8, "0100": 9, "000000": 0, "00ffff": 16, "010000": 17} {
		for _, below := range []bool{false, true} {
			if got := whole.Bits(num(t, below, hex)); got != want {
				t.Errorf("Bits(%t %s) = %d", below, hex, got)
			}
		}
	}
}

// P3.5
func TestNeg(t *testing.T) {
	for _, x := range samples() {
		is(t, "Neg", whole.Neg(fromBig(x)), new(big.Int).Neg(x))
	}
	is(t, "Neg", whole.Neg(whole.Num{}), new(big.Int))
	is(t, "Neg", whole.Neg(whole.Num{Below: true}), new(big.Int))
	is(t, "Neg", whole.Neg(whole.Num{Below: true, Size: []byte{0, 0}}), new(big.Int))
}

// spoil writes over a result, up to its capacity.
func spoil(b []byte) {
	b = b[:cap(b)]
	for i := range b {
		b[i] = ^b[i]
	}
}

// roomy returns b in a piece of a longer memory, and that memory.
func roomy(b []byte) (piece, all []byte) {
	all = append(append([]byte{0xa5, 0xa5}, b...), 0x5a, 0x5a, 0x5a)
	return all[2 : 2+len(b)], all
}

// P3.7: neither a call nor a write into its result reaches an argument.
func TestArgumentsStay(t *testing.T) {
	for _, hex := range []string{"", "00", "01", "0001", "80", "ff", "00ff", "ffff", "000000ffff80", "7fffffffffffffff", "8000000000000000"} {
		for _, below := range []bool{false, true} {
			size, all := roomy(num(t, false, hex).Size)
			other, rest := roomy([]byte{0, 1, 0xff})
			kept, keptRest := bytes.Clone(all), bytes.Clone(rest)
			a, b := whole.Num{Below: below, Size: size}, whole.Num{Size: other}
			whole.Right(a)
			whole.Int(a)
			whole.Bits(a)
			whole.Compare(a, b)
			whole.Text(a)
			x, _ := whole.Contents(a)
			spoil(x)
			x, _ = whole.Write(a)
			spoil(x)
			n, _ := whole.Parse(size)
			spoil(n.Size)
			spoil(whole.Neg(a).Size)
			for _, c := range []whole.Num{a, b, {}, {Below: true}} {
				spoil(whole.Add(a, c).Size)
				spoil(whole.Add(c, a).Size)
			}
			if !bytes.Equal(all, kept) || !bytes.Equal(rest, keptRest) {
				t.Errorf("%t %s: now %x and %x", below, hex, all, rest)
			}
		}
	}
}

// P3.7: results do not share memory with each other, nor with a cursor.
func TestResultsAreNew(t *testing.T) {
	in := []byte{2, 2, 1, 2, 2, 2, 0, 0x80, 2, 2, 0x80, 1}
	for _, at := range []int{0, 4, 8} {
		c := octet.New(in[at:])
		first, e := whole.Read(c)
		if e != api.OK {
			t.Fatal(e)
		}
		want := toBig(first)
		c.Back(0)
		second, _ := whole.Read(c)
		spoil(first.Size)
		is(t, "another result", second, want)
		c.Back(0)
		third, _ := whole.Read(c)
		is(t, "the cursor", third, want)
	}
	for range 2 {
		n, _ := whole.FromText("258")
		is(t, "FromText", n, big.NewInt(258))
		spoil(n.Size)
		n = whole.Of(258)
		is(t, "Of", n, big.NewInt(258))
		spoil(n.Size)
		b, _ := whole.WriteInt(258, 2)
		if !bytes.Equal(b, []byte{2, 2, 1, 2}) {
			t.Errorf("%x", b)
		}
		spoil(b)
	}
}

// Termination: numbers far beyond the limits.
func TestHugeNumbers(t *testing.T) {
	size := bytes.Repeat([]byte{0xff}, 1<<20)
	n := whole.Num{Size: size}
	if whole.Bits(n) != 1<<23 || !whole.Right(n) {
		t.Error("Bits")
	}
	if _, e := whole.Int(n); e != api.ErrLong {
		t.Error(e)
	}
	if b, e := whole.Contents(n); b != nil || e != api.ErrLong {
		t.Error(len(b), e)
	}
	if b, e := whole.Write(whole.Neg(n)); b != nil || e != api.ErrLong {
		t.Error(len(b), e)
	}
	more := whole.Add(n, whole.Of(1))
	if len(more.Size) != 1<<20+1 || more.Size[0] != 1 || !bytes.Equal(more.Size[1:], make([]byte, 1<<20)) {
		t.Error("carry through all bytes")
	}
	if whole.Compare(more, n) != 1 || whole.Compare(whole.Neg(more), n) != -1 {
		t.Error("Compare")
	}
	is(t, "back again", whole.Add(more, whole.Neg(n)), big.NewInt(1))
	if n, e := whole.Parse(size); e != api.ErrLong {
		t.Error(n, e)
	}
	wide := whole.Num{Below: true, Size: make([]byte, 1<<20)}
	if b, e := whole.Contents(wide); !bytes.Equal(b, []byte{0}) || e != api.OK {
		t.Error(b, e)
	}
	if whole.Text(wide) != "0" || whole.Bits(wide) != 0 {
		t.Error("a long 0")
	}
}
