package queue_test

import (
	"math/rand"
	"reflect"
	"testing"

	"afflux/api"
	. "afflux/queue"
)

// P23.1
func TestQueue(t *testing.T) {
	if New[int](0) != nil || New[int](10001) != nil || New[int](-1) != nil || New[int](10000) == nil {
		t.Error("rooms")
	}
	q := New[int](2)
	in := []int{1, 2, 3, 4}
	if n, e := q.Put(in...); n != 2 || e != api.ErrBusy {
		t.Error(n, e)
	}
	in[0] = 9
	if q.Len() != 2 || q.Free() != 0 || q.Counts() != (Tally{Came: 2, Refused: 2, Most: 2}) {
		t.Error(q.Counts())
	}
	if l := q.Take(1); !reflect.DeepEqual(l, []int{1}) || q.Len() != 1 {
		t.Error(l)
	}
	if n, e := q.Put(5); n != 1 || e != api.OK {
		t.Error(n, e)
	}
	for i, want := range []int{2, 5} {
		if x, ok := q.At(i); x != want || !ok {
			t.Error(i, x)
		}
	}
	for _, i := range []int{-1, 2} {
		x, ok := q.At(i)
		y, there := q.Remove(i)
		if x != 0 || ok || y != 0 || there {
			t.Error(i)
		}
	}
	if x, ok := q.Remove(1); x != 5 || !ok || q.Len() != 1 || q.Counts() != (Tally{Came: 3, Went: 2, Refused: 2, Most: 2}) {
		t.Error(x, q.Counts())
	}
	if q.Take(0) != nil || q.Take(-1) != nil || q.Len() != 1 || !reflect.DeepEqual(q.Take(9), []int{2}) || q.Take(9) != nil || q.Free() != 2 {
		t.Error("Take")
	}
	if n, e := q.Put(); n != 0 || e != api.OK {
		t.Error("nothing")
	}
	var none *Queue[string]
	n, e := none.Put("x")
	x, ok := none.At(0)
	y, there := none.Remove(0)
	if n != 0 || e != api.ErrArg || none.Take(1) != nil || x != "" || ok || y != "" || there || none.Len() != 0 || none.Free() != 0 || none.Counts() != (Tally{}) {
		t.Error("nil")
	}
}

// P23.2
func TestWhatCame(t *testing.T) {
	r := rand.New(rand.NewSource(13))
	for range 200 {
		room := 1 + r.Intn(6)
		q := New[int](room)
		var waits []int
		next, refused, most, went := 0, 0, 0, 0
		for range 60 {
			switch r.Intn(3) {
			case 0:
				var l []int
				for range r.Intn(5) {
					l = append(l, next+len(l))
				}
				n, e := q.Put(l...)
				if fits := min(len(l), room-len(waits)); n != fits || (e == api.ErrBusy) != (fits < len(l)) {
					t.Fatal(n, e)
				}
				waits = append(waits, l[:n]...)
				next, refused, most = next+n, refused+len(l)-n, max(most, len(waits))
			case 1:
				n := r.Intn(4)
				l := q.Take(n)
				n = min(n, len(waits))
				if len(l) != n || n > 0 && !reflect.DeepEqual(l, waits[:n]) {
					t.Fatal(l)
				}
				waits, went = waits[n:], went+n
			default:
				if i := r.Intn(4); i < len(waits) {
					if x, _ := q.Remove(i); x != waits[i] {
						t.Fatal(x)
					}
					waits, went = append(append([]int{}, waits[:i]...), waits[i+1:]...), went+1
				}
			}
			if c := q.Counts(); c != (Tally{Came: next, Went: went, Refused: refused, Most: most}) || c.Came != c.Went+q.Len() || q.Len() > room || q.Len() != len(waits) {
				t.Fatal(c)
			}
		}
	}
}
