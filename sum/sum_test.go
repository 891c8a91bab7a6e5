package sum_test

import (
	"bytes"
	"encoding/binary"
	"hash/crc32"
	"math/rand"
	"testing"

	"bilge/sum"
)

func random(n int) []byte {
	b := make([]byte, n)
	rand.New(rand.NewSource(int64(n))).Read(b)
	return b
}

// P8.1, against the library's.
func TestOf(t *testing.T) {
	if got := sum.Of([]byte("123456789")); got != 0xcbf43926 {
		t.Errorf("the chapter's example: %x", got)
	}
	if sum.Of(nil) != 0 || sum.Of([]byte{}) != 0 {
		t.Error("of nothing")
	}
	for c := range 256 {
		if b := []byte{byte(c)}; sum.Of(b) != crc32.ChecksumIEEE(b) {
			t.Errorf("of %x: %x", b, sum.Of(b))
		}
	}
	for _, n := range []int{2, 3, 4, 5, 31, 32, 33, 1000, 1 << 16} {
		if b := random(n); sum.Of(b) != crc32.ChecksumIEEE(b) {
			t.Errorf("of %d bytes: %x", n, sum.Of(b))
		}
	}
}

// P8.1.
func TestParts(t *testing.T) {
	b := random(300)
	want := crc32.ChecksumIEEE(b)
	for i := range 301 {
		if sum.Parts(b[:i], b[i:]) != want || sum.Parts(b[:i], nil, b[i:], []byte{}) != want {
			t.Error("cut at", i)
		}
	}
	if sum.Parts() != 0 || sum.Parts(nil, nil) != 0 || sum.Parts(b) != want || sum.Parts(b[200:], b[:200]) == want {
		t.Error("parts")
	}
	if sum.Parts([]byte("123"), []byte("456"), []byte("789")) != 0xcbf43926 {
		t.Error("three parts")
	}
}

// P8.1, P8.3.
func TestPutAndCut(t *testing.T) {
	for _, n := range []int{0, 1, 2, 3, 4, 5, 100, 4096} {
		b := random(n)
		want := binary.LittleEndian.AppendUint32(bytes.Clone(b), crc32.ChecksumIEEE(b))
		got := sum.Put(b)
		if !bytes.Equal(got, want) {
			t.Errorf("Put of %d bytes: %x", n, got)
		}
		if body, ok := sum.Cut(got); !ok || !bytes.Equal(body, b) {
			t.Errorf("Cut of %d bytes: %x, %v", n, body, ok)
		}
	}
	if body, ok := sum.Cut([]byte{0, 0, 0, 0}); !ok || len(body) != 0 {
		t.Error("the sum of nothing")
	}
}

// P8.2.
func TestCutOfOthers(t *testing.T) {
	good := sum.Put([]byte("abc"))
	for _, b := range [][]byte{
		nil, {}, {0}, {0, 0, 0}, {0, 0, 0, 1}, {1, 0, 0, 0}, {0, 0, 0, 0, 0}, []byte("123456789"), {0xcb, 0xf4, 0x39, 0x26},
		append([]byte("123456789"), 0xcb, 0xf4, 0x39, 0x26), good[1:], good[:len(good)-1], append(bytes.Clone(good), 0),
	} {
		if body, ok := sum.Cut(b); ok || len(body) != 0 {
			t.Errorf("Cut(%x) = %x, %v", b, body, ok)
		}
	}
	if body, ok := sum.Cut(append([]byte("123456789"), 0x26, 0x39, 0xf4, 0xcb)); !ok || string(body) != "123456789" {
		t.Error("the lowest byte stands first")
	}
}

// P8.3: runs of up to 32 bits, turned.
func TestTurned(t *testing.T) {
	turns := rand.New(rand.NewSource(8))
	good := sum.Put(random(40))
	bits := 8 * len(good)
	for length := 1; length <= 32; length++ {
		for at := range bits - length + 1 {
			bad := bytes.Clone(good)
			for i := range length {
				// The first and the last are turned, those between at will.
				if i == 0 || i == length-1 || turns.Intn(2) == 0 {
					bad[(at+i)/8] ^= 1 << ((at + i) % 8)
				}
			}
			if _, ok := sum.Cut(bad); ok {
				t.Fatalf("%d bits at %d", length, at)
			}
		}
	}
}

// P8.4.
func TestHandedInStays(t *testing.T) {
	room := append(make([]byte, 0, 100), "abcdefgh"...)
	b := room[:4]
	put := sum.Put(b)
	put[0] = 'x'
	if string(room) != "abcdefgh" {
		t.Errorf("%q", room)
	}
	good := sum.Put(b)
	body, _ := sum.Cut(good)
	body[0] = 'y'
	if good[0] != 'a' || string(b) != "abcd" {
		t.Error("memory is shared")
	}
	sum.Parts(b, good)
	if string(b) != "abcd" {
		t.Error("parts were changed")
	}
}
