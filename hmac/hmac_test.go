package hmac

import (
	"bytes"
	library "crypto/hmac"
	"crypto/sha256"
	"math/rand/v2"
	"slices"
	"strings"
	"testing"

	"comitia/api"
	"comitia/sha"
)

// text is n bytes, no two blocks of them alike.
func text(n int) []byte {
	b := make([]byte, n)
	for i := range b {
		b[i] = byte(i*7 + i/256)
	}
	return b
}

// keyOf is a key of n bytes, other ones than text's.
func keyOf(n int) []byte {
	b := make([]byte, n)
	for i := range b {
		b[i] = byte(i*11 + 3 + i/256)
	}
	return b
}

// others is what Go's own library signs.
func others(key, text []byte) api.Hash {
	h := library.New(sha256.New, key)
	h.Write(text)
	return api.Hash(h.Sum(nil))
}

func TestSignsOfKeysAboutTheEndsOfBlocks(t *testing.T) {
	known := []struct {
		key, text int
		want      string
	}{
		{0, 0, "b613679a0814d9ec772f95d778c35fc5ff1697c493715653c6c712144292c5ad"},
		{0, 3, "c5cc52db9805bf87b71b6c293f21cf5444220bc1ec9bff19285a4a9d34f93fb3"},
		{0, 200, "3246ebe63facae4b8bba5d937b594e4c565b7adee8a72a3105a927f6f6588b91"},
		{1, 0, "be8d44d01aa938627809668b7364a21ed8e9fc8cffa64d18846d126789d4cef8"},
		{1, 3, "26315209e4f8773a86b1fa054e26ba3b25560844502d00522fac3a3b8f8d0489"},
		{1, 200, "4e052ebc9171ff9d30c90e8813ea8d153510ba0ee810dee50e43432be6d18338"},
		{63, 0, "12cad0d30f88603a6bb01cc82dd7bd06a9b57d5b0156f8531cf3389116acb1d7"},
		{63, 3, "1e447cfc5f4edaa3856e5cd5b433abd23d2a5e2178546808301bde81de41f8af"},
		{63, 200, "742d86bc52fead85610aeeb5c6c14bd76d1e98fb137519cbeba1e18f385c5b24"},
		{64, 0, "4ef821624a4bbe47d3775c8f29538152c2935c8dcc53d04fae01f4ddae60dd94"},
		{64, 3, "7af4bf78e3a82891f427af7ca641488eca0a5563ac064449729438f5a6b38bff"},
		{64, 200, "eafbbbdad93651379edf868df6f2dc88c510a74d5fd388a27eb4f92b8f85146d"},
		{65, 0, "6108326612a47c0f1a240ef9705c4830b8706b58cfd78b4bcc4989064adc9905"},
		{65, 3, "39c839ee3800ae084d2ea274f8cc8c390c1ce84ccac7796e909dd7abec94e8f4"},
		{65, 200, "2d1866058f82ea5760ae3f16336759784175bbe7f184139644c28dd9fef56b25"},
		{200, 0, "4de6b1d885d239ba86f94199960fb9989a68a807c3eb57665c9b45bf6513d080"},
		{200, 3, "c6e0b674997a9b4f67267b396ddd47c4401843a3ac5b0a7878a322394bb85c4d"},
		{200, 200, "1b8a1818ad4664b5e2f902b00f58c7947e21f5ad729bb39155160e7520665977"},
	}
	for _, k := range known {
		if got := sha.Hex(Mac(keyOf(k.key), text(k.text))); got != k.want {
			t.Errorf("P301: a key of %d bytes, %d bytes: %s, want %s", k.key, k.text, got, k.want)
		}
	}
}

func TestSignsThatOthersTell(t *testing.T) {
	long := strings.Repeat("\xaa", 131)
	known := []struct{ what, key, text, want string }{
		{"case 1 of RFC 4231", strings.Repeat("\x0b", 20), "Hi There", "b0344c61d8db38535ca8afceaf0bf12b881dc200c9833da726e9376c2e32cff7"},
		{"case 2 of RFC 4231", "Jefe", "what do ya want for nothing?", "5bdcc146bf60754e6a042426089575c75a003f089d2739839dec58b964ec3843"},
		{"case 3 of RFC 4231", strings.Repeat("\xaa", 20), strings.Repeat("\xdd", 50), "773ea91e36800e46854db8ebd09181a72959098b3ef8c122d9635514ced565fe"},
		{"case 6 of RFC 4231", long, "Test Using Larger Than Block-Size Key - Hash Key First", "60e431591ee0b67f0d8a26aacbf5b77f8e0bc6213728c5140546040f0ee37f54"},
		{"case 7 of RFC 4231", long, "This is a test using a larger than block-size key and a larger than block-size data. The key needs to be hashed before being used by the HMAC algorithm.", "9b09ffa71b942fcb27635fbcd5b0e944bfdc63644f0713938a7f51535c3a35e2"},
	}
	for _, k := range known {
		if got := sha.Hex(Mac([]byte(k.key), []byte(k.text))); got != k.want {
			t.Errorf("P301: %s: %s, want %s", k.what, got, k.want)
		}
	}
}

func TestExampleOne(t *testing.T) {
	if s := sha.Hex(Mac(nil)); !strings.HasPrefix(s, "b613679a") {
		t.Errorf("P301: example 1: %s", s)
	}
}

func TestSignsOfEachLength(t *testing.T) {
	for k := range 140 {
		for _, n := range []int{0, 1, 55, 56, 63, 64, 65, 130} {
			if got := Mac(keyOf(k), text(n)); got != others(keyOf(k), text(n)) {
				t.Fatalf("P301: a key of %d bytes, %d bytes: %s", k, n, sha.Hex(got))
			}
		}
	}
}

func TestALongKeySignsAsItsSum(t *testing.T) {
	for _, n := range []int{65, 66, 127, 128, 129, 1000} {
		sum := sha.Sum(keyOf(n))
		for _, b := range [][]byte{nil, text(3), text(200)} {
			if Mac(keyOf(n), b) != Mac(sum[:], b) {
				t.Errorf("P301: a key of %d bytes, %d bytes: not as its sum signs", n, len(b))
			}
		}
	}
	full := sha.Sum(keyOf(64))
	if Mac(keyOf(64), text(3)) == Mac(full[:], text(3)) {
		t.Error("P301: a key of 64 bytes is not longer than 64 bytes, but signs as its sum does")
	}
}

func TestNoughtsBehindAKeyDoNotCount(t *testing.T) {
	for n := range 64 {
		want := Mac(keyOf(n), text(9))
		for more := range 65 - n {
			if Mac(append(keyOf(n), make([]byte, more)...), text(9)) != want {
				t.Fatalf("P301: a key of %d bytes, %d noughts behind it", n, more)
			}
		}
		if Mac(append(make([]byte, 1), keyOf(n)...), text(9)) == want && n > 0 {
			t.Fatalf("P301: a key of %d bytes: a nought ahead of it does not count", n)
		}
	}
	if Mac(make([]byte, 65), text(9)) == Mac(nil, text(9)) {
		t.Error("P301: 65 noughts are longer than a block, but sign as no key does")
	}
}

func TestEachByteOfAKeyCounts(t *testing.T) {
	for _, n := range []int{1, 63, 64, 65, 200} {
		want := Mac(keyOf(n), text(9))
		for i := range n {
			for bit := range 8 {
				k := keyOf(n)
				k[i] ^= 1 << bit
				if got := Mac(k, text(9)); got == want || got != others(k, text(9)) {
					t.Fatalf("P301: a key of %d bytes, bit %d of byte %d changed: %s", n, bit, i, sha.Hex(got))
				}
			}
		}
	}
	for b := range 256 {
		if k := []byte{byte(b)}; Mac(k, text(9)) != others(k, text(9)) {
			t.Errorf("P301: a key of the byte %d", b)
		}
	}
}

func TestKeyAndTextAreTwoThings(t *testing.T) {
	b := []byte("key and text")
	seen := map[api.Hash]int{}
	for i := range len(b) + 1 {
		h := Mac(b[:i], b[i:])
		if at, ok := seen[h]; ok {
			t.Errorf("P301: cut at %d as cut at %d", i, at)
		}
		seen[h] = i
	}
}

func TestPartsComeOneBehindTheOther(t *testing.T) {
	k, a, b := []byte("key"), []byte("to and "), []byte("fro ")
	if Mac(k, a, b) != others(k, []byte("to and fro ")) || Mac(k, b, a) != others(k, []byte("fro to and ")) {
		t.Error("P301: parts signed in another order")
	}
	if Mac(k, a, a) != others(k, []byte("to and to and ")) {
		t.Error("P301: a part that comes twice counts twice")
	}
}

func TestNothingToSign(t *testing.T) {
	var no [][]byte
	for _, k := range [][]byte{nil, {}, {1}, keyOf(64), keyOf(65)} {
		want := others(k, nil)
		for i, got := range []api.Hash{Mac(k), Mac(k, nil), Mac(k, []byte{}), Mac(k, no...), Mac(k, [][]byte{}...), Mac(k, nil, []byte{}, nil)} {
			if got != want {
				t.Errorf("P302: a key of %d bytes, way %d to sign nothing: %s", len(k), i, sha.Hex(got))
			}
		}
	}
	if Mac(nil, text(3)) != Mac([]byte{}, text(3)) {
		t.Error("P2: no key and an empty one sign unlike")
	}
}

func TestCutsDoNotCount(t *testing.T) {
	for _, k := range []int{0, 5, 64, 65} {
		for _, n := range []int{1, 55, 56, 64, 65, 200} {
			key, b := keyOf(k), text(n)
			want := Mac(key, b)
			var single [][]byte
			for i := range n + 1 {
				if Mac(key, b[:i], b[i:]) != want || Mac(key, nil, b[:i], []byte{}, nil, b[i:], []byte{}) != want {
					t.Fatalf("P302: a key of %d bytes, %d bytes, cut at %d", k, n, i)
				}
				if i < n {
					single = append(single, b[i:i+1], nil)
				}
			}
			if Mac(key, single...) != want {
				t.Fatalf("P302: a key of %d bytes, %d bytes, one by one", k, n)
			}
		}
	}
}

func TestKeysAndCutsAtRandom(t *testing.T) {
	r := rand.New(rand.NewPCG(3, 302))
	for range 2000 {
		key, b := make([]byte, r.IntN(150)), make([]byte, r.IntN(400))
		for _, l := range [][]byte{key, b} {
			for i := range l {
				l[i] = byte(r.Uint32())
			}
		}
		var parts [][]byte
		for rest := b; len(rest) > 0; {
			n := r.IntN(min(len(rest), 150) + 1)
			parts = append(parts, rest[:n])
			rest = rest[n:]
		}
		if got := Mac(key, parts...); got != others(key, b) {
			t.Fatalf("P301, P302: key %x, %x in %d parts: %s", key, b, len(parts), sha.Hex(got))
		}
	}
}

func TestWhatIsHandedInStays(t *testing.T) {
	for _, k := range []int{0, 1, 31, 32, 63, 64, 65, 130} {
		for _, n := range []int{0, 1, 55, 64, 130} {
			wholeKey, whole := keyOf(k+200), text(n+200)
			parts := [][]byte{whole[:n], nil, whole[:n], {1, 2, 3}, {4}}
			Mac(wholeKey[:k], parts[:3]...)
			if !bytes.Equal(wholeKey, keyOf(k+200)) {
				t.Errorf("P2: a key of %d bytes: it or its spare room changed", k)
			}
			if !bytes.Equal(whole, text(n+200)) {
				t.Errorf("P2: %d bytes: a part or its spare room changed", n)
			}
			if &parts[0][:1][0] != &whole[0] || len(parts[0]) != n || parts[1] != nil || &parts[2][:1][0] != &whole[0] || len(parts[2]) != n {
				t.Errorf("P2: %d bytes: the list of parts changed", n)
			}
			if !slices.Equal(parts[3], []byte{1, 2, 3}) || !slices.Equal(parts[4], []byte{4}) {
				t.Errorf("P2: %d bytes: spare room of the list of parts changed", n)
			}
		}
	}
}

func TestKeyAndPartsMayShareMemory(t *testing.T) {
	b := text(300)
	for _, k := range []int{0, 10, 64, 65, 300} {
		if Mac(b[:k], b, b[:k], b[k:]) != others(text(k), slices.Concat(text(300), text(300))) {
			t.Errorf("P2: a key of %d bytes, that lies in its parts", k)
		}
	}
}

func TestSignsDoNotHangOnOneAnother(t *testing.T) {
	k, b := keyOf(40), text(300)
	first := Mac(k, b)
	kept := first
	clear(k) // a sign that kept them would tell
	clear(b)
	blank := Mac(k, b)
	if first != kept || blank != others(make([]byte, 40), make([]byte, 300)) {
		t.Error("P2: a sign hangs on what became of its key or its parts")
	}
	for n := range 200 {
		if Mac(keyOf(n), text(n)) != others(keyOf(n), text(n)) || Mac(keyOf(40), text(300)) != first || Mac(k, b) != blank {
			t.Fatalf("P2, P3: a sign hangs on what was signed ahead, %d bytes", n)
		}
	}
}

func TestSignsSideBySide(t *testing.T) {
	t.Parallel()
	done := make(chan bool)
	for i := range 8 {
		go func() {
			good := true
			for n := range 200 {
				good = good && Mac(keyOf(n), text(n+i*50)) == others(keyOf(n), text(n+i*50))
			}
			done <- good
		}()
	}
	for range 8 {
		if !<-done {
			t.Error("P7: signs side by side touch one another")
		}
	}
}

// FuzzMac looks for a key, bytes and a cut whose sign is not the library's.
func FuzzMac(f *testing.F) {
	f.Add([]byte("key"), []byte("abc"), 1)
	f.Add(keyOf(64), text(64), 64)
	f.Add(keyOf(65), make([]byte, 192), 70)
	f.Fuzz(func(t *testing.T, key, b []byte, cut int) {
		cut = min(max(cut, 0), len(b))
		if got := Mac(key, b[:cut], b[cut:]); got != others(key, b) {
			t.Errorf("P301: key %x, %x cut at %d: %s", key, b, cut, sha.Hex(got))
		}
	})
}
