package frame_test

import (
	"bytes"
	"encoding/binary"
	"hash/crc32"
	"math/rand"
	"testing"

	"bilge/api"
	"bilge/frame"
)

// lay makes a frame by hand.
func lay(mark string, version, length uint32, body []byte) []byte {
	b := []byte(mark)
	b = binary.LittleEndian.AppendUint32(b, version)
	b = binary.LittleEndian.AppendUint32(b, length)
	b = append(b, body...)
	return binary.LittleEndian.AppendUint32(b, crc32.ChecksumIEEE(b))
}

func bodies() [][]byte {
	random := rand.New(rand.NewSource(9))
	var l [][]byte
	for _, n := range []int{0, 1, 3, 4, 255, 256, 257, 65536, 70000, api.MaxBody - 1, api.MaxBody} {
		b := make([]byte, n)
		random.Read(b)
		l = append(l, b)
	}
	return l
}

var versions = []int{0, 1, 255, 256, 0x01020304, 1<<31 - 1, 1 << 31, 1<<32 - 1}

// P9.1, P9.2.
func TestPutAndGet(t *testing.T) {
	for _, body := range bodies() {
		for _, version := range versions {
			b, err := frame.Put(version, body)
			if err != api.OK || !bytes.Equal(b, lay("BLG1", uint32(version), uint32(len(body)), body)) {
				t.Fatalf("Put of %d, %d bytes: %d", version, len(body), err)
			}
			v, got, err := frame.Get(b)
			if v != version || !bytes.Equal(got, body) || err != api.OK {
				t.Fatalf("Get of %d, %d bytes: %d, %d bytes, %d", version, len(body), v, len(got), err)
			}
		}
	}
	if b, _ := frame.Put(7, nil); len(b) != 16 {
		t.Error("an empty body:", len(b))
	}
}

// P9.1.
func TestPutOfOthers(t *testing.T) {
	for _, version := range []int{-1, -1 << 63, 1 << 32, 1<<32 + 1, api.Most} {
		if b, err := frame.Put(version, []byte("a")); len(b) != 0 || err != api.ErrArg {
			t.Error(version, b, err)
		}
	}
	if b, err := frame.Put(1, make([]byte, api.MaxBody+1)); len(b) != 0 || err != api.ErrArg {
		t.Error("a body that is too long", len(b), err)
	}
}

// P9.1, P9.2.
func TestGetOfOthers(t *testing.T) {
	good := lay("BLG1", 5, 3, []byte("abc"))
	long := make([]byte, api.MaxBody+1)
	wrong := [][]byte{
		nil, {}, {0, 0, 0, 0}, []byte("BLG1"), lay("BLG1", 5, 2, []byte("abc")), lay("BLG1", 5, 4, []byte("abc")), lay("BLG1", 5, 0, []byte("abc")),
		lay("BLG2", 5, 3, []byte("abc")), lay("blg1", 5, 3, []byte("abc")), lay("", 5, 3, []byte("abc")), lay("1GLB", 5, 3, []byte("abc")),
		lay("BLG1", 5, 1<<32-1, []byte("abc")), lay("BLG1", 5, 3<<24, []byte("abc")), lay("BLG1", 5, uint32(len(long)), long),
		append(bytes.Clone(good), 0), append([]byte{0}, good...), append(bytes.Clone(good), good...),
	}
	for _, mark := range []string{"BLG1", "BLG1\x01\x00\x00\x00", "BLG1\x01\x00\x00\x00\x00\x00\x00"} {
		wrong = append(wrong, binary.LittleEndian.AppendUint32([]byte(mark), crc32.ChecksumIEEE([]byte(mark))))
	}
	for i := range good {
		wrong = append(wrong, good[:i])
	}
	for i, b := range wrong {
		if v, body, err := frame.Get(b); v != 0 || len(body) != 0 || err != api.ErrForm {
			t.Errorf("%d: Get(%x) = %d, %x, %d", i, b[:min(len(b), 30)], v, body, err)
		}
	}
	if v, body, err := frame.Get(good); v != 5 || string(body) != "abc" || err != api.OK {
		t.Error(v, body, err)
	}
}

// P9.2: runs of up to 32 bits, turned.
func TestTurned(t *testing.T) {
	turns := rand.New(rand.NewSource(90))
	good, _ := frame.Put(77, []byte("some body of bytes"))
	for range 20000 {
		bad := bytes.Clone(good)
		length := 1 + turns.Intn(32)
		at := turns.Intn(8*len(bad) - length + 1)
		for i := range length {
			if i == 0 || i == length-1 || turns.Intn(2) == 0 {
				bad[(at+i)/8] ^= 1 << ((at + i) % 8)
			}
		}
		if _, _, err := frame.Get(bad); err != api.ErrForm {
			t.Fatalf("%d bits at %d: %d", length, at, err)
		}
	}
}

// P9.3.
func TestHandedInStays(t *testing.T) {
	body := append(make([]byte, 0, 100), "abc"...)
	b, _ := frame.Put(1, body)
	again := bytes.Clone(b)
	_, got, _ := frame.Get(b)
	got[0] = 'x'
	if string(body) != "abc" || !bytes.Equal(b, again) {
		t.Error(body, b)
	}
	b[12] = 'y'
	if string(body) != "abc" || string(got) != "xbc" {
		t.Error("memory is shared")
	}
}
