package binary

import (
	"bytes"
	"errors"
	"slices"
	"testing"

	"troupe/api"
	"troupe/fault"
)

// above is how far one generation of a slot is from the next one.
const above = api.MaxHandles

// fresh is an empty heap.
func fresh(t *testing.T, slots, room int) *Heap {
	t.Helper()
	h, err := New(slots, room)
	if err != nil || h == nil {
		t.Fatalf("New(%d, %d): %v", slots, room, err)
	}
	isHeap(t, h, 0)
	return h
}

// many are n bytes, no two neighbours of which are the same.
func many(n int) []byte {
	b := make([]byte, n)
	for i := range b {
		b[i] = byte(i % 251)
	}
	return b
}

// puts puts a text, which must be given this handle.
func puts(t *testing.T, h *Heap, text string, want int) {
	t.Helper()
	if handle, err := h.Put([]byte(text)); handle != want || err != nil {
		t.Fatalf("Put(%q): %d, not %d: %v", text, handle, want, err)
	}
}

// noPut puts bytes for which there is no room.
func noPut(t *testing.T, h *Heap, n int) {
	t.Helper()
	handle, err := h.Put(make([]byte, n))
	if handle != -1 {
		t.Fatalf("Put of %d bytes: %d", n, handle)
	}
	refused(t, err, api.ErrFull, "put", n)
}

// keeps holds a handle once more, that must be there.
func keeps(t *testing.T, h *Heap, handle int) {
	t.Helper()
	if err := h.Keep(handle); err != nil {
		t.Fatalf("Keep(%d): %v", handle, err)
	}
}

// drops holds handles once less, that must be there.
func drops(t *testing.T, h *Heap, handles ...int) {
	t.Helper()
	for _, handle := range handles {
		if err := h.Drop(handle); err != nil {
			t.Fatalf("Drop(%d): %v", handle, err)
		}
	}
}

// holds asks for a handle's bytes, and how often it is held.
func holds(t *testing.T, h *Heap, handle, count int, text string) {
	t.Helper()
	if b, err := h.Bytes(handle); string(b) != text || err != nil {
		t.Fatalf("Bytes(%d): %q, not %q: %v", handle, b, text, err)
	}
	if n, err := h.Count(handle); n != count || err != nil {
		t.Fatalf("Count(%d): %d, not %d: %v", handle, n, count, err)
	}
}

// isPart asks for some of a handle's bytes.
func isPart(t *testing.T, h *Heap, handle, from, n int, want []byte) {
	t.Helper()
	if b, err := h.Part(handle, from, n); !bytes.Equal(b, want) || err != nil {
		t.Fatalf("Part(%d, %d, %d): %v, not %v: %v", handle, from, n, b, want, err)
	}
}

// noPart asks for bytes that are not there.
func noPart(t *testing.T, h *Heap, handle, from, n int, kind api.Errno) {
	t.Helper()
	b, err := h.Part(handle, from, n)
	if len(b) != 0 {
		t.Fatalf("Part(%d, %d, %d): %v", handle, from, n, b)
	}
	refused(t, err, kind, "part", handle)
}

// wrong asks all that may be asked of a handle that is not held.
func wrong(t *testing.T, h *Heap, kind api.Errno, handles ...int) {
	t.Helper()
	for _, handle := range handles {
		refused(t, h.Keep(handle), kind, "keep", handle)
		refused(t, h.Drop(handle), kind, "drop", handle)
		b, err := h.Bytes(handle)
		refused(t, err, kind, "bytes", handle)
		n, err := h.Count(handle)
		refused(t, err, kind, "count", handle)
		if len(b) != 0 || n != 0 {
			t.Fatalf("%d: bytes %v, count %d", handle, b, n)
		}
		noPart(t, h, handle, 0, 0, kind)
		noPart(t, h, handle, -1, 1<<40, kind) // what is wrong with the handle counts first
	}
}

// isHeap asks for the bytes of all that are held, and for their handles.
func isHeap(t *testing.T, h *Heap, used int, handles ...int) {
	t.Helper()
	if h.Used() != used || !slices.Equal(h.Handles(), handles) {
		t.Fatalf("%d used, handles %v; not %d, %v", h.Used(), h.Handles(), used, handles)
	}
}

// refused asks for a chain of one Fault around a kind.
func refused(t *testing.T, err error, kind api.Errno, op string, n int) {
	t.Helper()
	var f *api.Fault
	if !errors.As(err, &f) || err != error(f) || f.Op != op || f.N != n || f.Err != error(kind) || fault.Kind(err) != kind {
		t.Fatalf("%v: not a Fault %q of %d around %v", err, op, n, kind)
	}
}
