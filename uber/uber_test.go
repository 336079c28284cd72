package uber

import (
	"bytes"
	"crypto/hmac"
	"crypto/sha256"
	"encoding/binary"
	"fmt"
	"math"
	"math/rand"
	"slices"
	"testing"

	"banyan/api"
)

// bytesAt is how many bytes stand ahead of an uber's code.
const bytesAt = 480

// keys are of all lengths about those that a code tells apart.
func keys() [][]byte {
	l := [][]byte{{0}, {1}, []byte("key"), []byte("kez")}
	for _, size := range []int{31, 32, 33, 63, 64, 65, 128, 1000} {
		l = append(l, bytes.Repeat([]byte{byte(size)}, size))
	}
	return append(l, nil)
}

// root is a pointer at that sector, another for each.
func root(addr uint32) api.Ptr {
	p := api.Ptr{Addr: addr, Birth: uint64(addr)*0x0102030405 + 1}
	for i := range p.Sum {
		p.Sum[i] = byte(int(addr) + i + 1)
	}
	return p
}

// anyUber is one by chance, that may be.
func anyUber(c *rand.Rand) api.Uber {
	u := api.Uber{Txg: c.Uint64()>>c.Intn(64) | 1, Size: uint32(16 + c.Intn(4081))}
	u.Txg -= min(uint64(c.Intn(2)), u.Txg-1)
	if c.Intn(5) > 0 {
		u.Root = api.Ptr{Addr: 2 + uint32(c.Intn(int(u.Size)-2)), Birth: c.Uint64()>>c.Intn(64) | 1}
		c.Read(u.Root.Sum[:])
	}
	return u
}

// good are ubers that may be, at all edges.
func good() []api.Uber {
	l := []api.Uber{
		{Txg: 0x0102, Size: 16, Root: api.Ptr{Addr: 5, Birth: 6, Sum: api.Hash{7}}},
		{Txg: 0x0102030405060708, Size: 0x090a, Root: root(0x0901)},
		{Txg: 1, Size: 4096, Root: api.Ptr{Addr: 2, Birth: math.MaxUint64, Sum: api.Hash{31: 1}}},
		{Txg: math.MaxUint64, Size: 16, Root: api.Ptr{Addr: 15, Birth: 1}},
	}
	for _, txg := range []uint64{1, 2, 3, 4, 5, 255, 256, math.MaxUint32, 1 << 32, 1 << 63, math.MaxUint64 - 1, math.MaxUint64} {
		for _, size := range []uint32{16, 17, 255, 256, 4095, 4096} {
			for _, p := range []api.Ptr{{}, root(2), root(size - 1)} {
				l = append(l, api.Uber{Txg: txg, Size: size, Root: p})
			}
		}
	}
	c := rand.New(rand.NewSource(10))
	for range 200 {
		l = append(l, anyUber(c))
	}
	return l
}

// named is an uber, and what it is.
type named struct {
	what string
	u    api.Uber
}

// bad are ubers that may not be, each fault by itself, and all at once.
func bad() []named {
	l := []named{
		{"nothing", api.Uber{}},
		{"a number alone", api.Uber{Txg: 1}},
		{"no number", api.Uber{Size: 16}},
		{"no number, with a root", api.Uber{Size: 4096, Root: root(2)}},
		{"all wrong", api.Uber{Size: 15, Root: api.Ptr{Addr: 1}}},
	}
	for _, size := range []uint32{0, 1, 2, 15, 4097, 65536, 65536 + 16, 1 << 24, 1<<24 + 16, 1 << 31, 1<<31 + 16, math.MaxUint32} {
		for _, p := range []api.Ptr{{}, root(2), root(14)} {
			l = append(l, named{fmt.Sprintf("size %d, root at %d", size, p.Addr), api.Uber{Txg: 7, Size: size, Root: p}})
		}
	}
	for _, size := range []uint32{16, 17, 256, 4096} {
		for _, p := range []api.Ptr{{Birth: 1}, {Sum: api.Hash{1}}, {Sum: api.Hash{31: 1}}, {Birth: 1, Sum: api.Hash{1}},
			{Addr: 1, Birth: 1}, {Addr: 1}, root(1), {Addr: 2}, {Addr: 2, Sum: api.Hash{1}}, {Addr: size - 1},
			root(size), root(size + 1), root(4096), root(65536), root(1 << 31), root(math.MaxUint32)} {
			l = append(l, named{fmt.Sprintf("size %d, root %v", size, p), api.Uber{Txg: 8, Size: size, Root: p}})
		}
	}
	return l
}

// ahead are an uber's bytes, but its code, told plainly, whether it may be or not.
func ahead(u api.Uber) []byte {
	b := []byte{66, 78, 89, 78}
	b = binary.BigEndian.AppendUint64(b, u.Txg)
	b = binary.BigEndian.AppendUint32(b, u.Size)
	b = binary.BigEndian.AppendUint32(b, u.Root.Addr)
	b = binary.BigEndian.AppendUint64(b, u.Root.Birth)
	b = append(b, u.Root.Sum[:]...)
	return append(b, make([]byte, bytesAt-len(b))...)
}

// signed are bytes and their code behind, by the library.
func signed(key, b []byte) []byte {
	h := hmac.New(sha256.New, key)
	h.Write(b)
	return h.Sum(slices.Clone(b))
}

// ofUber are an uber's bytes, told plainly.
func ofUber(key []byte, u api.Uber) []byte { return signed(key, ahead(u)) }

// errs tells if an error is that one.
func errs(t *testing.T, what string, got, want api.Errno) {
	t.Helper()
	if got != want {
		t.Errorf("%s: error %d, not %d", what, got, want)
	}
}

// gets tells if Get answers that.
func gets(t *testing.T, what string, key, b []byte, want api.Uber, err api.Errno) {
	t.Helper()
	if u, e := Get(key, b); u != want || e != err {
		t.Errorf("%s: %v, error %d, not %v, %d", what, u, e, want, err)
	}
}

// chooses tells if Choose answers that.
func chooses(t *testing.T, what string, key, a, b []byte, want api.Uber, err api.Errno) {
	t.Helper()
	if u, e := Choose(key, a, b); u != want || e != err {
		t.Errorf("%s: %v, error %d, not %v, %d", what, u, e, want, err)
	}
}

// P10.1
func TestCheck(t *testing.T) {
	for _, u := range good() {
		errs(t, fmt.Sprint(u), Check(u), api.OK)
	}
	for _, x := range bad() {
		errs(t, x.what, Check(x.u), api.ErrForm)
	}
}

// P10.1: all sizes, each with the sectors about its end.
func TestCheckOfAllSizes(t *testing.T) {
	for size := range uint32(5000) {
		for _, addr := range []uint32{0, 1, 2, size - 1, size, size + 1} {
			u := api.Uber{Txg: 1, Size: size, Root: root(addr)}
			if addr == 0 {
				u.Root = api.Ptr{}
			}
			want := api.ErrForm
			if size >= 16 && size <= 4096 && addr != 1 && addr < size {
				want = api.OK
			}
			errs(t, fmt.Sprintf("size %d, root at %d", size, addr), Check(u), want)
		}
	}
}

// P10.1: the chapter's examples, and numbers at their ends, 0 too.
func TestSlot(t *testing.T) {
	for txg, want := range map[uint64]uint32{0: 0, 1: 1, 2: 0, 3: 1, 4: 0, 5: 1, 255: 1, 256: 0, math.MaxUint32: 1, 1 << 32: 0,
		1<<32 + 1: 1, 1 << 63: 0, math.MaxUint64 - 1: 0, math.MaxUint64: 1} {
		if slot := Slot(txg); slot != want {
			t.Errorf("%d: slot %d, not %d", txg, slot, want)
		}
	}
	for bit := range 64 {
		if even, odd := Slot(1<<bit&^1), Slot(1<<bit|1); even != 0 || odd != 1 {
			t.Errorf("bit %d: slots %d, %d", bit, even, odd)
		}
	}
}

// P10.1: each field where the chapter has it, told byte by byte.
func TestPutOfOne(t *testing.T) {
	key := []byte("key")
	b, e := Put(key, api.Uber{Txg: 0x0102030405060708, Size: 0x090a, Root: api.Ptr{Addr: 0x0809, Birth: 0x1112131415161718, Sum: api.Hash{21, 22, 31: 23}}})
	errs(t, "Put", e, api.OK)
	want := []byte{66, 78, 89, 78, 1, 2, 3, 4, 5, 6, 7, 8, 0, 0, 9, 10, 0, 0, 8, 9, 0x11, 0x12, 0x13, 0x14, 0x15, 0x16, 0x17, 0x18, 21, 22}
	want = append(append(want, make([]byte, 29)...), 23)
	want = append(want, make([]byte, 480-60)...)
	if !bytes.Equal(b, signed(key, want)) {
		t.Errorf("%x", b)
	}
}

// P10.1: ubers at all edges, under all keys.
func TestPut(t *testing.T) {
	for _, key := range keys() {
		for _, u := range good() {
			b, e := Put(key, u)
			if e != api.OK || !bytes.Equal(b, ofUber(key, u)) {
				t.Errorf("key of %d bytes, %v: error %d, %x", len(key), u, e, b)
			}
		}
	}
}

// P10.1: Check's error, and nothing beside it.
func TestPutOfWhatMayNotBe(t *testing.T) {
	for _, key := range [][]byte{nil, []byte("key")} {
		for _, x := range bad() {
			b, e := Put(key, x.u)
			errs(t, x.what, e, api.ErrForm)
			if len(b) != 0 {
				t.Errorf("%s: %x beside an error", x.what, b)
			}
		}
	}
}

// P10.1: any other count of bytes, ahead of all else that is wrong with them.
func TestGetOfOtherCounts(t *testing.T) {
	key, u := []byte("key"), good()[0]
	whole := append(ofUber(key, u), make([]byte, 1000)...)
	gets(t, "nil", key, nil, api.Uber{}, api.ErrArg)
	for _, size := range []int{0, 1, 4, 31, 32, 33, 60, 479, 480, 481, 510, 511, 513, 514, 544, 1024, 1512} {
		gets(t, fmt.Sprint(size), key, whole[:size], api.Uber{}, api.ErrArg)
		gets(t, fmt.Sprint(size), nil, bytes.Repeat([]byte{9}, size), api.Uber{}, api.ErrArg)
		if size > 32 { // a code at their end is no help
			gets(t, fmt.Sprint(size), key, signed(key, whole[:size-32]), api.Uber{}, api.ErrArg)
		}
	}
	gets(t, "512", key, whole[:512], u, api.OK)
}

// P10.1: each bit turned by itself, of the code too.
func TestGetOfABitTurned(t *testing.T) {
	for _, key := range [][]byte{nil, []byte("key")} {
		b := ofUber(key, good()[1])
		for bit := range 8 * len(b) {
			b[bit/8] ^= 1 << (bit % 8)
			gets(t, fmt.Sprintf("bit %d", bit), key, b, api.Uber{}, api.ErrSum)
			b[bit/8] ^= 1 << (bit % 8)
		}
		gets(t, "none", key, b, good()[1], api.OK)
	}
}

// P10.1, P10.3: under another key nothing is got; noughts behind a key are none of it (layer 3).
func TestGetOfOtherKeys(t *testing.T) {
	u := good()[0]
	for i, key := range keys() {
		for j, other := range keys() {
			want, err := api.Uber{}, api.ErrSum
			if i == j || len(bytes.Trim(key, "\x00")) == 0 && len(bytes.Trim(other, "\x00")) == 0 {
				want, err = u, api.OK
			}
			gets(t, fmt.Sprintf("keys %d and %d", i, j), other, ofUber(key, u), want, err)
		}
	}
	gets(t, "a nought behind the key", []byte("key\x00"), ofUber([]byte("key"), u), u, api.OK)
	gets(t, "an empty key", []byte{}, ofUber(nil, u), u, api.OK)
}

// P10.1: a code that isn't is told ahead of bytes that may not be.
func TestGetAsksTheCodeFirst(t *testing.T) {
	for _, x := range bad() {
		gets(t, x.what, []byte("kez"), ofUber([]byte("key"), x.u), api.Uber{}, api.ErrSum)
	}
	gets(t, "noughts", nil, make([]byte, 512), api.Uber{}, api.ErrSum)
	gets(t, "255s", nil, bytes.Repeat([]byte{255}, 512), api.Uber{}, api.ErrSum)
	b := ahead(good()[0])
	h := sha256.Sum256(b)
	gets(t, "a hash under no key", nil, append(b, h[:]...), api.Uber{}, api.ErrSum)
	gets(t, "the code of all but a byte", []byte("key"), append(ahead(good()[0]), signed([]byte("key"), b[:479])[479:]...), api.Uber{}, api.ErrSum)
}

// P10.1: bytes under their code, that no uber is put as.
func TestGetOfWhatMayNotBe(t *testing.T) {
	for _, key := range [][]byte{nil, []byte("key")} {
		for _, x := range bad() {
			gets(t, x.what, key, ofUber(key, x.u), api.Uber{}, api.ErrForm)
		}
		gets(t, "noughts", key, signed(key, make([]byte, 480)), api.Uber{}, api.ErrForm)
		gets(t, "255s", key, signed(key, bytes.Repeat([]byte{255}, 480)), api.Uber{}, api.ErrForm)
		for _, size := range []int{0, 4, 60} { // the beginning of an uber, and bytes of none
			b := append(ahead(good()[0])[:size], bytes.Repeat([]byte{1}, 480-size)...)
			gets(t, fmt.Sprintf("%d bytes of an uber", size), key, signed(key, b), api.Uber{}, api.ErrForm)
		}
		moved := append([]byte{0}, ahead(good()[0])[:479]...)
		gets(t, "a byte ahead", key, signed(key, moved), api.Uber{}, api.ErrForm)
	}
}

// P10.1, P10.3: with a byte changed under its code anew, it is another uber that is put as these bytes, or none.
func TestGetOfEachByteChanged(t *testing.T) {
	key := []byte("key")
	for _, u := range []api.Uber{good()[0], good()[1], {Txg: 1, Size: 4096}} {
		b := ahead(u)
		for place := range b {
			for change := 1; change < 256; change++ {
				if place >= 60 && change&(change-1) != 0 {
					continue // among the noughts each bit by itself will do
				}
				b[place] ^= byte(change)
				what := fmt.Sprintf("place %d, change %d", place, change)
				got, e := Get(key, signed(key, b))
				outside := place < 4 || place >= 60 // where all ubers have the same
				switch {
				case e == api.OK:
					if outside || got == u || Check(got) != api.OK || !bytes.Equal(ahead(got), b) {
						t.Errorf("%s: %v", what, got)
					}
				case e != api.ErrForm || got != api.Uber{}:
					t.Errorf("%s: error %d, %v", what, e, got)
				case place >= 28 && place < 60 && u.Root.Addr != 0, place >= 4 && place < 11:
					t.Errorf("%s: refused", what) // any sum may be, and any number of these
				}
				b[place] ^= byte(change)
			}
		}
	}
}

// P10.1, P10.3: what is put is got, under its key.
func TestWhatIsPutIsGot(t *testing.T) {
	for _, key := range keys() {
		for _, u := range good() {
			b, _ := Put(key, u)
			gets(t, fmt.Sprint(u), key, b, u, api.OK)
			gets(t, fmt.Sprintf("%v, told plainly", u), key, ofUber(key, u), u, api.OK)
		}
	}
}

// of is an uber of that number, its other fields another for each.
func of(txg uint64) api.Uber {
	size := uint32(16 + txg%4000)
	return api.Uber{Txg: txg, Size: size, Root: root(2 + uint32(txg%14))}
}

// P10.2: the chapter's example, and its other way round.
func TestChooseOfTheExample(t *testing.T) {
	key := []byte("key")
	chooses(t, "4 and 5", key, ofUber(key, of(4)), ofUber(key, of(5)), of(5), api.OK)
	chooses(t, "5 and 4", key, ofUber(key, of(5)), ofUber(key, of(4)), api.Uber{}, api.ErrNone)
}

// newer is which of two sectors' ubers is chosen, told plainly: those that can be got, with the numbers that they have.
func newer(a, b uint64, aGot, bGot bool) (api.Uber, api.Errno) {
	aGot, bGot = aGot && a%2 == 0, bGot && b%2 == 1
	switch {
	case aGot && (!bGot || a > b):
		return of(a), api.OK
	case bGot:
		return of(b), api.OK
	}
	return api.Uber{}, api.ErrNone
}

// P10.2, P10.3: each number with each, and each of the two lost in some way, or in none.
func TestChooseOfEachTwo(t *testing.T) {
	key := []byte("key")
	txgs := []uint64{1, 2, 3, 4, 5, 6, 255, 256, math.MaxUint32, 1 << 32, 1<<63 - 1, 1 << 63, math.MaxUint64 - 1, math.MaxUint64}
	lost := func(way int, txg uint64) []byte {
		b := ofUber(key, of(txg))
		switch way {
		case 1:
			return nil
		case 2:
			return make([]byte, 512)
		case 3:
			return append(b, 0)
		case 4:
			b[100] ^= 1
		case 5:
			return ofUber([]byte("kez"), of(txg))
		case 6: // under its code, but of no uber
			b[100] = 1
			return signed(key, b[:480])
		}
		return b
	}
	for _, a := range txgs {
		for _, b := range txgs {
			for aWay := range 7 {
				for bWay := range 7 {
					want, err := newer(a, b, aWay == 0, bWay == 0)
					what := fmt.Sprintf("%d lost by %d, %d lost by %d", a, aWay, b, bWay)
					chooses(t, what, key, lost(aWay, a), lost(bWay, b), want, err)
				}
			}
		}
	}
}

// P10.2: ubers that may not be are none, however great their number is.
func TestChooseOfWhatMayNotBe(t *testing.T) {
	key := []byte("key")
	for _, x := range bad() {
		for _, txg := range []uint64{x.u.Txg, math.MaxUint64 - 1, math.MaxUint64} {
			u := x.u
			u.Txg = txg
			if Check(u) == api.OK {
				continue // its number was what was wrong
			}
			b := ofUber(key, u)
			chooses(t, x.what, key, b, b, api.Uber{}, api.ErrNone)
			chooses(t, x.what, key, b, ofUber(key, of(1)), of(1), api.OK)
			chooses(t, x.what, key, ofUber(key, of(2)), b, of(2), api.OK)
		}
	}
}

// P10.2: one sector's bytes in both places are taken where they belong.
func TestChooseOfOneSectorTwice(t *testing.T) {
	for _, key := range [][]byte{nil, []byte("key")} {
		for txg := uint64(1); txg < 20; txg++ {
			b := ofUber(key, of(txg))
			chooses(t, fmt.Sprint(txg), key, b, b, of(txg), api.OK)
		}
		chooses(t, "nothing", key, nil, nil, api.Uber{}, api.ErrNone)
		chooses(t, "noughts", key, make([]byte, 512), make([]byte, 512), api.Uber{}, api.ErrNone)
	}
}

// P10.2, P10.3: numbers that follow one another, written by turns: the last one is chosen, and if its sector is torn, the one ahead.
func TestChooseOfTurns(t *testing.T) {
	key := []byte("key")
	var sectors [2][]byte
	for txg := uint64(1); txg < 50; txg++ {
		b, _ := Put(key, of(txg))
		slot := Slot(txg)
		old := sectors[slot]
		sectors[slot] = b
		chooses(t, fmt.Sprint(txg), key, sectors[0], sectors[1], of(txg), api.OK)
		if old == nil {
			continue
		}
		for _, at := range []int{8, 60, 100, 480, 500} { // the new one's beginning, and the old one's rest
			torn := sectors
			torn[slot] = append(slices.Clone(b[:at]), old[at:]...)
			want := of(txg - 1)
			if bytes.Equal(torn[slot], old) {
				continue
			}
			chooses(t, fmt.Sprintf("%d torn at %d", txg, at), key, torn[0], torn[1], want, api.OK)
		}
	}
}

// P10.1, P10.2: what is handed in isn't changed, its spare room neither.
func TestArgumentsAreLeftAlone(t *testing.T) {
	for _, size := range []int{0, 1, 32, 64, 65, 100} {
		keys := bytes.Repeat([]byte{9}, 200)
		key := keys[:size]
		for _, u := range good()[:20] {
			b := append(ofUber(key, u), 1, 2, 3)
			c := append(ofUber(key, of(7)), 4, 5, 6)
			Put(key, u)
			Get(key, b[:512])
			Choose(key, b[:512], c[:512])
			if !bytes.Equal(keys, bytes.Repeat([]byte{9}, 200)) {
				t.Errorf("key of %d bytes: changed", size)
			}
			if !bytes.Equal(b, append(ofUber(key, u), 1, 2, 3)) || !bytes.Equal(c, append(ofUber(key, of(7)), 4, 5, 6)) {
				t.Errorf("%v: its bytes are changed", u)
			}
		}
	}
}

// P10.1, P10.2: key and sectors may be one memory.
func TestArgumentsMayShareMemory(t *testing.T) {
	b := ahead(of(4))
	whole := signed(b[:20], b)
	gets(t, "its own beginning as key", whole[:20], whole, of(4), api.OK)
	chooses(t, "its own beginning as key", whole[:20], whole, whole, of(4), api.OK)
}

// P10.1: each answer is new memory, its spare room too.
func TestAnswersAreNewMemory(t *testing.T) {
	key := []byte("key")
	for _, u := range good() {
		a, _ := Put(key, u)
		b, _ := Put(key, u)
		clear(a[:cap(a)])
		if !bytes.Equal(b, ofUber(key, u)) || string(key) != "key" {
			t.Errorf("%v: an answer shares memory with another one, or with the key", u)
		}
		gets(t, fmt.Sprint(u), key, b, u, api.OK)
	}
}
