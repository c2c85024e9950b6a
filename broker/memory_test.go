package broker

import (
	"reflect"
	"slices"
	"strconv"
	"testing"

	"tailrace/api"
)

// span of memory: a list, with its spare room.
type span struct {
	from, to uintptr
	what     string
}

// spansOf all lists in a value, in spare room, too.
func spansOf(v reflect.Value, what string) []span {
	var all []span
	switch v.Kind() {
	case reflect.Struct:
		for i := range v.NumField() {
			all = append(all, spansOf(v.Field(i), what+"."+v.Type().Field(i).Name)...)
		}
	case reflect.Slice:
		if v.Cap() == 0 {
			return nil
		}
		size := uintptr(v.Cap()) * v.Type().Elem().Size()
		all = append(all, span{v.Pointer(), v.Pointer() + size, what})
		v = v.Slice(0, v.Cap())
		for i := range v.Len() {
			all = append(all, spansOf(v.Index(i), what+"["+strconv.Itoa(i)+"]")...)
		}
	}
	return all
}

// busy: a world of which all lists have elements, and some had more.
func busy() []step {
	return then(marked(),
		done(sends("bob", 0, "e"), 0), done(of(api.Sync, 1, 0), 0), done(of(api.Sync, 0, 0), 0),
		done(joins("cy"), 1), done(joins("bob"), 2), done(joins("dan"), 3), done(leaves("dan"), 4),
		done(stores("cy", 4, 1, 0), 4), done(stores("bob", 4, 0, 0), 4),
		done(marks(0), 3), done(marks(0), 1), done(marks(0), 4),
		done(finishes("bob", 1), 0), done(marks(0), 1), done(marks(0), 5),
		done(of(api.Sync, 1, 0), 0), done(polls("cy", 1, 20), 6, "b", "c"), done(polls("cy", 1, 20), 6, "b", "c"), done(polls("cy", 1, 1), 1, "b"),
		done(begins("ann"), 0), done(sends("ann", 0, "f"), 2), done(sends("ann", 2, "g"), 2))
}

// TestMemory: no two lists of what is answered share memory, nor with what was handed in, nor with another answer.
func TestMemory(t *testing.T) {
	play(t, wide(), busy())
	l := slices.Grow(actsOf(busy()), 10)
	all := spansOf(reflect.ValueOf(l), "acts")
	for _, name := range []string{"one", "two"} {
		answers, w, _ := Run(wide(), l)
		all = append(all, spansOf(reflect.ValueOf(answers), name+" answers")...)
		all = append(all, spansOf(reflect.ValueOf(w), name+" world")...)
	}
	if len(all) < 60 {
		t.Errorf("there are %d lists: they tell too little", len(all))
	}
	for i, a := range all {
		for _, b := range all[:i] {
			if a.from < b.to && b.from < a.to {
				t.Errorf("%s and %s share memory", b.what, a.what)
			}
		}
	}
}

// TestHandedIn: the acts are not changed, their spare room neither, and nothing is kept from call to call.
func TestHandedIn(t *testing.T) {
	acts := actsOf(busy())
	l := append(slices.Clone(acts), acts...)[:len(acts)]
	before := told(l[:cap(l)])
	answers, w, _ := Run(wide(), l)
	if told(l[:cap(l)]) != before {
		t.Errorf("the acts are %+v, were %s", l[:cap(l)], before)
	}
	wantAnswers, wantWorld := told(answers), told(w)
	for i := range l {
		l[i] = api.Act{Kind: api.Tick, Name: "spoilt", N: 1}
	}
	if told(answers) != wantAnswers || told(w) != wantWorld {
		t.Error("what was handed in is kept")
	}
	Run(wide(), l)
	if answers, w, _ = Run(wide(), acts); told(answers) != wantAnswers || told(w) != wantWorld {
		t.Error("the same acts are answered in another way")
	}
}
