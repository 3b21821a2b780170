package sha

import (
	"bytes"
	"crypto/sha256"
	"encoding/hex"
	"math/rand/v2"
	"slices"
	"strings"
	"testing"

	"comitia/api"
)

// text is n bytes, no two blocks of them alike.
func text(n int) []byte {
	b := make([]byte, n)
	for i := range b {
		b[i] = byte(i*7 + i/256)
	}
	return b
}

func TestSumsOfLengthsAboutTheEndsOfBlocks(t *testing.T) {
	known := []struct {
		n    int
		want string
	}{
		{0, "e3b0c44298fc1c149afbf4c8996fb92427ae41e4649b934ca495991b7852b855"},
		{1, "6e340b9cffb37a989ca544e6bb780a2c78901d3fb33738768511a30617afa01d"},
		{3, "b361d0f9a938a2bb4fbdc9c21dc5a859788041b0040919d8a811c1888184f4df"},
		{55, "576a1bf8d4478657e6dc4af9398544765c2a92cde28478b019235cfed315fc09"},
		{56, "9b20501dfd1d99161c257950f3444f3e49230c351c5c8e0943ef369f85f5205d"},
		{57, "a5534a9d0694341dfde5b1bb3d8addcb38bd46f44a629dc97b3f8fb2721b0720"},
		{63, "30b345906b493f06f69444b6521113511c242f30e29840462950035043682f1e"},
		{64, "d8bc63b4fc1156e5e7d95a418b9bf54cd3174bedbc2db40f74895349b229b3c0"},
		{65, "1ee23b0fbcaecc1aff4a9e8f1645f35ab2c8e13609cd73b68df8b5e3f63ce073"},
		{119, "7a6589821178918ca8d9edaba5abfc1e9b2669564f4469b66885379c1530b2c8"},
		{120, "655250427d56b1b0eeb8497d21428704273458a01772d6881b65c0abac0f8a98"},
		{121, "45f58104c4de6fb3c56974bce12a36de36198024612e48629871796548d4620c"},
		{127, "67d79933e3c9aa8e89f481e071cfca1e9a16c09d7263b5efa3bb01f1a9f8d065"},
		{128, "54c9eb041badfd7064645067b107661fed6113197ce2dd066ba69618abd3732f"},
		{129, "5b55715b51c54661ed0cbd75ba5b00cf1ffee3b7c113a636eca613d9425116a6"},
		{191, "cd3da3414c6d6a25add1b022996564962bd1080888ef3755645bc7bb93811612"},
		{192, "0929b2a4dd0b391291463a0ba24b407418adac9b8b7c09cbb602c918a1f5b6a7"},
		{1000, "c85a431e0fe575b2609289d3a4042414715f400612575a125d2ce5573d608732"},
	}
	for _, k := range known {
		if got := Hex(Sum(text(k.n))); got != k.want {
			t.Errorf("P201: %d bytes: %s, want %s", k.n, got, k.want)
		}
	}
}

func TestSumsThatOthersTell(t *testing.T) {
	noughts, as := strings.Repeat("\x00", 64), strings.Repeat("a", 64)
	known := []struct{ what, s, want string }{
		{"three bytes", "abc", "ba7816bf8f01cfea414140de5dae2223b00361a396177a9cb410ff61f20015ad"},
		{"two blocks of FIPS 180-2", "abcdbcdecdefdefgefghfghighijhijkijkljklmklmnlmnomnopnopq", "248d6a61d20638b8e5c026930c3e6039a33ce45964ff2167f6ecedd419db06c1"},
		{"a million times a", strings.Repeat("a", 1000000), "cdc76e5c9914fb9281a1c7e284d73e67f1809a48a497200e046d39ccc7112cd0"},
		{"ten blocks of noughts", strings.Repeat(noughts, 10), "9e132485d5107211de325a45e7917cbe3e4b5b9cde3e4ee91d7d2102317759ee"},
		{"runs of equal blocks", noughts + noughts + as + as + noughts, "8a31e40dffbe974537ba1bb347120ee950afcfa2681f72d8cced298c70405172"},
	}
	for _, k := range known {
		if got := Hex(Sum([]byte(k.s))); got != k.want {
			t.Errorf("P201: %s: %s, want %s", k.what, got, k.want)
		}
	}
}

func TestExampleOne(t *testing.T) {
	if s := Hex(Sum([]byte("a"), []byte("bc"))); !strings.HasPrefix(s, "ba7816bf") {
		t.Errorf("P201: example 1: %s", s)
	}
}

func TestPartsComeOneBehindTheOther(t *testing.T) {
	a, b := []byte("to and "), []byte("fro ")
	if Sum(a, b) != sha256.Sum256([]byte("to and fro ")) || Sum(b, a) != sha256.Sum256([]byte("fro to and ")) {
		t.Error("P201: parts summed in another order")
	}
	if Sum(a, a) != sha256.Sum256([]byte("to and to and ")) {
		t.Error("P201: a part that comes twice counts twice")
	}
}

func TestHex(t *testing.T) {
	var each, ends api.Hash
	for i := range each {
		each[i] = byte(i * 8)
		ends[i] = []byte{0x00, 0x0f, 0xf0, 0xff, 0x09, 0x90, 0x0a, 0xa0}[i%8]
	}
	known := []struct {
		what string
		h    api.Hash
		want string
	}{
		{"noughts", api.Hash{}, strings.Repeat("0", 64)},
		{"each byte another", each, "0008101820283038404850586068707880889098a0a8b0b8c0c8d0d8e0e8f0f8"},
		{"halves at their ends", ends, strings.Repeat("000ff0ff09900aa0", 4)},
		{"first byte", api.Hash{0: 0x12}, "12" + strings.Repeat("0", 62)},
		{"last byte", api.Hash{31: 0x12}, strings.Repeat("0", 62) + "12"},
	}
	for _, k := range known {
		if got := Hex(k.h); got != k.want {
			t.Errorf("P201: Hex, %s: %s, want %s", k.what, got, k.want)
		}
	}
	for b := range 256 {
		if got := Hex(api.Hash{7: byte(b)}); len(got) != 64 || got[14:16] != hex.EncodeToString([]byte{byte(b)}) {
			t.Errorf("P201: Hex of %#x: %s", b, got)
		}
	}
}

func TestNothingToSum(t *testing.T) {
	want := api.Hash(sha256.Sum256(nil))
	var no [][]byte
	for i, got := range []api.Hash{Sum(), Sum(nil), Sum([]byte{}), Sum(no...), Sum([][]byte{}...), Sum(nil, []byte{}, nil)} {
		if got != want {
			t.Errorf("P202: way %d to sum nothing: %s", i, Hex(got))
		}
	}
}

func TestCutsDoNotCount(t *testing.T) {
	for _, n := range []int{1, 55, 56, 64, 65, 128, 200} {
		b := text(n)
		want := Sum(b)
		var single [][]byte
		for i := range n + 1 {
			if Sum(b[:i], b[i:]) != want || Sum(nil, b[:i], []byte{}, nil, b[i:], []byte{}) != want {
				t.Fatalf("P202: %d bytes, cut at %d", n, i)
			}
			if i < n {
				single = append(single, b[i:i+1], nil)
			}
		}
		if Sum(single...) != want {
			t.Fatalf("P202: %d bytes, one by one", n)
		}
	}
}

func TestCutsAtRandom(t *testing.T) {
	r := rand.New(rand.NewPCG(2, 202))
	for range 2000 {
		b := make([]byte, r.IntN(400))
		for i := range b {
			b[i] = byte(r.Uint32())
		}
		var parts [][]byte
		for rest := b; len(rest) > 0; {
			n := r.IntN(min(len(rest), 150) + 1)
			parts = append(parts, rest[:n])
			rest = rest[n:]
		}
		if got := Sum(parts...); got != sha256.Sum256(b) {
			t.Fatalf("P201, P202: %x in %d parts: %s", b, len(parts), Hex(got))
		}
	}
}

func TestWhatIsHandedInStays(t *testing.T) {
	for _, n := range []int{0, 1, 55, 56, 63, 64, 65, 130} {
		whole := text(n + 200)
		part := whole[:n]
		parts := [][]byte{part, nil, part, {1, 2, 3}}
		Sum(parts[:3]...)
		if !bytes.Equal(whole, text(n+200)) {
			t.Errorf("P2: %d bytes: a part or its spare room changed", n)
		}
		if &parts[0][:1][0] != &whole[0] || parts[1] != nil || len(parts[2]) != n || !slices.Equal(parts[3], []byte{1, 2, 3}) {
			t.Errorf("P2: %d bytes: the list of parts or its spare room changed", n)
		}
	}
}

func TestSumsDoNotHangOnOneAnother(t *testing.T) {
	b := text(300)
	first := Sum(b)
	kept := first
	clear(b) // a sum that kept b would tell
	blank := Sum(b)
	if first != kept || blank != sha256.Sum256(make([]byte, 300)) {
		t.Error("P2: a sum hangs on what became of its parts")
	}
	for n := range 200 {
		if Sum(text(n)) != sha256.Sum256(text(n)) || Sum(text(300)) != first || Sum(b) != blank {
			t.Fatalf("P3: a sum hangs on what was summed ahead, %d bytes", n)
		}
	}
}

func TestSumsSideBySide(t *testing.T) {
	t.Parallel()
	done := make(chan bool)
	for i := range 8 {
		go func() {
			good := true
			for n := range 200 {
				good = good && Sum(text(n+i*200)) == sha256.Sum256(text(n+i*200))
			}
			done <- good
		}()
	}
	for range 8 {
		if !<-done {
			t.Error("P7: sums side by side touch one another")
		}
	}
}

func TestMoreBitsThanThirtyTwoBitsTell(t *testing.T) {
	if testing.Short() {
		t.Skip("sums half a gigabyte")
	}
	part := text(1 << 20)
	parts := slices.Repeat([][]byte{part}, 513)
	h := sha256.New()
	for _, p := range parts {
		h.Write(p)
	}
	if got := Sum(parts...); !bytes.Equal(got[:], h.Sum(nil)) {
		t.Errorf("P201: %d bytes: %s", len(parts)*len(part), Hex(got))
	}
}

// FuzzSum looks for bytes and a cut whose sum is not the library's.
func FuzzSum(f *testing.F) {
	f.Add([]byte("abc"), 1)
	f.Add(text(64), 64)
	f.Add(make([]byte, 192), 70)
	f.Fuzz(func(t *testing.T, b []byte, cut int) {
		cut = min(max(cut, 0), len(b))
		got := Sum(b[:cut], b[cut:])
		if want := sha256.Sum256(b); got != want || Hex(got) != hex.EncodeToString(want[:]) {
			t.Errorf("P201: %x cut at %d: %s", b, cut, Hex(got))
		}
	})
}

func BenchmarkSum(b *testing.B) {
	part := text(1 << 14)
	b.SetBytes(1 << 14)
	for b.Loop() {
		Sum(part)
	}
}
