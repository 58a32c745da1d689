package world_test

import (
	"reflect"
	"slices"
	"testing"

	"missive/api"
	"missive/world"
)

// Rules that hold everywhere

// behind is the list in memory of its own, and behind it a lot of x in its spare room.
func behind[T any](l []T, x T) []T {
	return slices.Concat(l, slices.Repeat([]T{x}, 20))[:len(l)]
}

// roomy is the entry in memory of its own, with spare room behind its lists in which something lies.
func roomy(e api.Entry) api.Entry {
	e.Text, e.Steps = behind(e.Text, 77), behind(e.Steps, api.Step{Kind: 99})
	for i, x := range e.Steps {
		e.Steps[i].Bytes, e.Steps[i].Parts = behind(x.Bytes, 79), behind(x.Parts, 80)
	}
	return e
}

// whole is the entry in other memory, with what lies in its spare room.
func whole(e api.Entry) api.Entry {
	e.Text, e.Steps = slices.Clone(e.Text[:cap(e.Text)]), slices.Clone(e.Steps[:cap(e.Steps)])
	for i, x := range e.Steps {
		e.Steps[i].Bytes, e.Steps[i].Parts = slices.Clone(x.Bytes[:cap(x.Bytes)]), slices.Clone(x.Parts[:cap(x.Parts)])
	}
	return e
}

// spoil writes over all that the entry has, and all spare room.
func spoil(e api.Entry) {
	for i := range e.Text[:cap(e.Text)] {
		e.Text[:cap(e.Text)][i] ^= 85
	}
	for i, x := range e.Steps[:cap(e.Steps)] {
		for j := range x.Bytes[:cap(x.Bytes)] {
			x.Bytes[:cap(x.Bytes)][j] ^= 85
		}
		for j := range x.Parts[:cap(x.Parts)] {
			x.Parts[:cap(x.Parts)][j] = 90
		}
		e.Steps[:cap(e.Steps)][i] = api.Step{Kind: 91}
	}
}

// What is handed in, and its spare room, is left as it was, and isn't kept: that it is written over changes nothing.
func TestArgumentsAreLeft(t *testing.T) {
	for n, c := range []api.Setting{free(2, 2, 1), free(3, 1, 0), real(2, 1, 0)} {
		d := drawer(70 + n)
		w, m := begun(t, c), modelOf(c)
		for i := range 300 {
			e := d.entry(c, unlike(4), w)
			if l := all(c); i < len(l) {
				e = l[i]
			}
			want := m.do(roomy(e))
			given := roomy(e)
			was := whole(given)
			if got := w.Do(given); got != want {
				t.Fatal(e, got, want)
			}
			if !alike(whole(given), was) {
				t.Fatal("what is handed in is changed", e)
			}
			spoil(given)
			if !c.Free && i == 80 {
				break
			}
		}
		w.Calm(3)
		m.calm(3)
		m.holds(t, w)
	}
}

// deep is x in memory of its own.
func deep(x reflect.Value) reflect.Value {
	y := reflect.New(x.Type()).Elem()
	switch x.Kind() {
	case reflect.Interface:
		y.Set(deep(x.Elem()))
	case reflect.Slice:
		y.Set(reflect.MakeSlice(x.Type(), x.Len(), x.Len()))
		for i := range x.Len() {
			y.Index(i).Set(deep(x.Index(i)))
		}
	case reflect.Array:
		for i := range x.Len() {
			y.Index(i).Set(deep(x.Index(i)))
		}
	case reflect.Struct:
		for i := range x.NumField() {
			y.Field(i).Set(deep(x.Field(i)))
		}
	default:
		y.Set(x)
	}
	return y
}

// scrawl writes over all memory to which x leads, and over what is spare there.
func scrawl(x reflect.Value) {
	switch x.Kind() {
	case reflect.Interface:
		scrawl(x.Elem())
	case reflect.Slice:
		x = x.Slice(0, x.Cap())
		for i := range x.Len() {
			scrawl(x.Index(i))
		}
	case reflect.Array:
		for i := range x.Len() {
			scrawl(x.Index(i))
		}
	case reflect.Struct:
		for i := range x.NumField() {
			scrawl(x.Field(i))
		}
	}
	if !x.CanSet() {
		return
	}
	switch x.Kind() {
	case reflect.Uint8, reflect.Uint16, reflect.Uint32:
		x.SetUint(x.Uint() ^ 85)
	case reflect.Int:
		x.SetInt(x.Int() ^ 85)
	case reflect.Bool:
		x.SetBool(!x.Bool())
	}
}

// told is all that a world tells, each answer once more.
func told(c api.Setting, w *world.World) []any {
	return append(everything(c, w), w.Bag(), w.Seen(), w.Held())
}

// An answer is new memory: that it is written over, with its spare room, changes nothing, neither another answer nor the world.
func TestAnswersAreNew(t *testing.T) {
	for _, c := range []api.Setting{free(2, 1, 1), free(3, 2, 1), real(2, 1, 0)} {
		d := drawer(4)
		w, m := begun(t, c), modelOf(c)
		size := 300
		if !c.Free {
			size = 60
		}
		script := append([]api.Entry{take(0), steal(0)}, all(c)...)
		for range 4 {
			script = append(script, say(0, 4, "heard soon"))
		}
		for i := range size {
			if i == 100 || i == 40 {
				w.Calm(8)
				m.calm(8)
			}
			e := d.entry(c, usual(), w)
			if len(script) > 0 {
				e, script = script[0], script[1:]
			}
			if got, want := w.Do(e), m.do(e); got != want {
				t.Fatal(e, got, want)
			}
			if d.below(20) == 0 {
				first, second := told(c, w), told(c, w)
				want := deep(reflect.ValueOf(second)).Interface().([]any)
				scrawl(reflect.ValueOf(first))
				if !sameEverything(second, want) || !sameEverything(told(c, w), want) {
					t.Fatal("an answer is another one")
				}
			}
		}
		w.Calm(2)
		m.calm(2)
		m.holds(t, w)
		if len(w.Heard(4, 0)) == 0 {
			t.Error("nothing was heard")
		}
	}
}

// nil and empty are one and the same in what is handed in.
func TestNilAndEmpty(t *testing.T) {
	c := free(2, 1, 0)
	w, v := friends(t, c), friends(t, c)
	for _, e := range []api.Entry{say(0, 4, ""), forge(0), forge(0, api.Step{Kind: api.FoeWrite}), forge(0, api.Step{Kind: api.FoeJoin}), tick(16), clock(), ripe()} {
		x := e
		e.Text, e.Steps = nil, slices.Clip(e.Steps)
		x.Text = []byte{}
		if len(e.Steps) == 0 {
			e.Steps, x.Steps = nil, []api.Step{}
		} else {
			x.Steps = slices.Clone(e.Steps)
			x.Steps[0].Bytes, x.Steps[0].Parts = []byte{}, []int{}
		}
		if a, b := w.Do(e), v.Do(x); a != b {
			t.Error(e, a, b)
		}
	}
	if !sameEverything(told(c, w), told(c, v)) {
		t.Error("they are not the same")
	}
}

// Two worlds have nothing in common.
func TestWorldsApart(t *testing.T) {
	c := free(2, 1, 0)
	w, v := friends(t, c), friends(t, c)
	was := told(c, v)
	do(t, w, say(0, 4, "x"), take(0), tick(16))
	w.Calm(10)
	if !sameEverything(told(c, v), was) {
		t.Error("what is done in one is done in the other")
	}
}
