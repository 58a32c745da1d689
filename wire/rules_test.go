package wire_test

import (
	"bytes"
	"reflect"
	"slices"
	"testing"

	"missive/api"
	"missive/wire"
)

// The rules that hold everywhere: what is handed in stays as it is, and an answer is new memory.

// copied is v with lists of its own, each with room behind it that is filled.
func copied(v reflect.Value) reflect.Value {
	c := reflect.New(v.Type()).Elem()
	switch v.Kind() {
	case reflect.Struct:
		for i := range v.NumField() {
			c.Field(i).Set(copied(v.Field(i)))
		}
	case reflect.Slice:
		c.Set(reflect.MakeSlice(v.Type(), v.Len()+3, v.Len()+3))
		for i := range c.Len() {
			fill(c.Index(i))
		}
		for i := range v.Len() {
			c.Index(i).Set(copied(v.Index(i)))
		}
		c.SetLen(v.Len())
	default:
		c.Set(v)
	}
	return c
}

// fill makes v something else than it was, in all that it has, the room behind its lists too.
func fill(v reflect.Value) {
	switch v.Kind() {
	case reflect.Struct:
		for i := range v.NumField() {
			fill(v.Field(i))
		}
	case reflect.Array:
		for i := range v.Len() {
			fill(v.Index(i))
		}
	case reflect.Slice:
		whole := v.Slice(0, v.Cap())
		for i := range whole.Len() {
			fill(whole.Index(i))
		}
	case reflect.Bool:
		v.SetBool(!v.Bool())
	default:
		v.SetUint(^v.Uint())
	}
}

// roomy tells whether two things are alike, the room behind their lists too.
func roomy(x, y reflect.Value) bool {
	switch x.Kind() {
	case reflect.Struct:
		for i := range x.NumField() {
			if !roomy(x.Field(i), y.Field(i)) {
				return false
			}
		}
		return true
	case reflect.Slice:
		if x.Len() != y.Len() || x.Cap() != y.Cap() {
			return false
		}
		x, y = x.Slice(0, x.Cap()), y.Slice(0, y.Cap())
		for i := range x.Len() {
			if !roomy(x.Index(i), y.Index(i)) {
				return false
			}
		}
		return true
	}
	return x.Equal(y)
}

func TestPutLeavesItsArgument(t *testing.T) {
	for _, f := range faces() {
		d := drawer(9)
		for range 60 {
			drawn := reflect.ValueOf(f.draw(&d))
			x, before := copied(drawn), copied(drawn)
			b, _ := f.put(x.Interface())
			if !roomy(x, before) {
				t.Fatalf("Put%s changed %v to %v", f.name, before, x)
			}
			again, _ := f.put(x.Interface())
			was := slices.Clone(b)
			fill(x)
			if !bytes.Equal(b, was) {
				t.Fatalf("Put%s: its answer changes with what was handed in", f.name)
			}
			fill(reflect.ValueOf(b))
			if !bytes.Equal(again, was) {
				t.Fatalf("Put%s: two answers share memory", f.name)
			}
		}
	}
}

// getAs is Get of just these bytes, which it may keep or change, where it should not.
func getAs(name string, b []byte) reflect.Value {
	var x any
	switch name {
	case "Bundle":
		x, _ = wire.GetBundle(b)
	case "Letter":
		x, _ = wire.GetLetter(b)
	case "Object":
		x, _ = wire.GetObject(b)
	case "Item":
		x, _ = wire.GetItem(b)
	case "Call":
		x, _ = wire.GetCall(b)
	case "Reply":
		x, _ = wire.GetReply(b)
	case "Trans":
		x, _ = wire.GetTrans(b)
	case "Packet":
		x, _ = wire.GetPacket(b)
	}
	return reflect.ValueOf(x)
}

func TestGetLeavesItsArgument(t *testing.T) {
	for _, f := range faces() {
		d := drawer(10)
		for range 60 {
			drawn := f.draw(&d)
			text := f.writes(drawn)
			room := []byte(text + "behind")
			x, again := getAs(f.name, room[:len(text)]), getAs(f.name, room[:len(text)])
			if string(room) != text+"behind" {
				t.Fatalf("Get%s changed what was handed in", f.name)
			}
			fill(reflect.ValueOf(room))
			if !alike(x.Interface(), drawn) {
				t.Fatalf("Get%s: its answer changes with what was handed in", f.name)
			}
			own := reflect.New(x.Type()).Elem()
			own.Set(x)
			fill(own)
			if !alike(again.Interface(), drawn) {
				t.Fatalf("Get%s: two answers share memory", f.name)
			}
		}
	}
}

// lists are all that stand in v, those within others too.
func lists(v reflect.Value) (l []reflect.Value) {
	switch v.Kind() {
	case reflect.Struct:
		for i := range v.NumField() {
			l = append(l, lists(v.Field(i))...)
		}
	case reflect.Slice:
		l = append(l, v)
		for i := range v.Len() {
			l = append(l, lists(v.Index(i))...)
		}
	}
	return l
}

func TestNoTwoListsOfAnAnswerShareRoom(t *testing.T) {
	d := drawer(11)
	for range 200 {
		for _, f := range faces() {
			text := f.writes(f.draw(&d))
			x := getAs(f.name, []byte(text))
			own := reflect.New(x.Type()).Elem()
			own.Set(x)
			l := lists(own)
			for _, list := range l {
				if list.Type() != reflect.TypeFor[[]byte]() {
					continue
				}
				// Whoever puts something behind a text changes nothing else.
				room := list.Slice(0, list.Cap())
				for i := list.Len(); i < room.Len(); i++ {
					fill(room.Index(i))
				}
			}
			if b, ok := f.put(own.Interface()); !ok || string(b) != text {
				t.Fatalf("Get%s: lists of its answer share room", f.name)
			}
		}
	}
}

func TestTextsAreNewMemory(t *testing.T) {
	d := drawer(12)
	for range 60 {
		x, y := copied(reflect.ValueOf(d.packet())), copied(reflect.ValueOf(d.object()))
		p, o := x.Interface().(api.Packet), y.Interface().(api.Object)
		before, beforeO := copied(x), copied(y)
		texts := []func() []byte{
			func() []byte { return wire.PacketText(p) },
			func() []byte { return wire.ObjectText(o) },
			func() []byte { return wire.VouchText(o, 4) },
			func() []byte { return wire.BundleText(aBundle) },
			func() []byte { b, _ := wire.HeaderBytes(aFirst); return b },
		}
		for i, f := range texts {
			b, again := f(), f()
			was := slices.Clone(again)
			fill(reflect.ValueOf(b))
			if len(was) == 0 || !bytes.Equal(again, was) || !bytes.Equal(f(), was) {
				t.Fatalf("the text %d shares memory with another", i)
			}
		}
		if !roomy(x, before) || !roomy(y, beforeO) {
			t.Fatal("a text changed what was handed in")
		}
		text := wire.PacketText(p)
		was := slices.Clone(text)
		fill(x)
		if !bytes.Equal(text, was) {
			t.Fatal("a text changes with what was handed in")
		}
	}
}

func TestNothingIsKept(t *testing.T) {
	wire.GetItem([]byte("\x01\x00\x01\x07"))
	wire.GetPacket([]byte(join("\x00", "\x00", "\x09")))
	wire.PutItem(api.Item{Kind: 9})
	wire.PutReply(api.Reply{Items: make([]api.Item, 5)})
	for _, h := range hands() {
		named(h.face).refused(t, "nothing", "", api.ErrForm)
		named(h.face).told(t, "behind a refused one", h.want, h.x)
		named(h.face).written(t, "behind a refused one", h.x, h.want)
	}
}
