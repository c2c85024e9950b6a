package wire

import (
	"bytes"
	"math"
	"slices"
	"strings"
	"testing"

	"tailrace/api"
)

const top = api.MaxNumber

// changed: an entry, but for one thing.
func changed(e api.Entry, change func(*api.Entry)) api.Entry {
	change(&e)
	return e
}

// sealed: a body with its length ahead and the sum behind, whatever it says.
func sealed(body ...byte) []byte {
	s := 0
	for i, c := range body {
		s = (s + (i+1)*int(c)) % 65521
	}
	b := append([]byte{byte(len(body))}, body...)
	return append(b, byte(s/256), byte(s%256))
}

// encoded: the bytes of entries that may be.
func encoded(t *testing.T, entries ...api.Entry) []byte {
	t.Helper()
	var all []byte
	for _, e := range entries {
		b, refused := Encode(e)
		if refused != api.OK {
			t.Fatalf("Encode(%+v): %v", e, refused)
		}
		all = append(all, b...)
	}
	return all
}

// samples: entries that may be, with the edges of all fields.
func samples() []api.Entry {
	entries := []api.Entry{
		{Kind: api.Data},
		{Kind: api.Data, Epoch: top, Text: "nobody's"},
		{Kind: api.Data, Pid: 1, Text: strings.Repeat("\xff", api.MaxText)},
		{Kind: api.Data, Epoch: top, Pid: top, Ver: top, Seq: top, Txn: true, Text: strings.Repeat("z", api.MaxText)},
		{Kind: api.Data, Pid: 1, Text: "\x00\x80\xff"},
		{Kind: api.Commit, Pid: 1, Txn: true},
		{Kind: api.Abort, Pid: top, Epoch: top, Ver: top, Txn: true},
	}
	for _, n := range []int{0, 1, 127, 128, 129, 255, 256, 1<<14 - 1, 1 << 14, 1<<21 - 1, 1 << 21, 1<<28 - 1, 1 << 28, top - 1, top} {
		entries = append(entries,
			api.Entry{Kind: api.Data, Epoch: n},
			api.Entry{Kind: api.Data, Pid: 1 + n%top, Ver: n, Text: "v"},
			api.Entry{Kind: api.Data, Pid: 2, Seq: n, Txn: true, Text: "s"})
	}
	return entries
}

// TestCheckMayBe: P1.1, entries that may be.
func TestCheckMayBe(t *testing.T) {
	for _, e := range samples() {
		if got := Check(e); got != api.OK {
			t.Errorf("Check(%+v) = %v, want OK", e, got)
		}
	}
}

// TestCheckRefuses: P1.1, each error by itself.
func TestCheckRefuses(t *testing.T) {
	data := api.Entry{Kind: api.Data, Pid: 1}
	nobody := api.Entry{Kind: api.Data}
	commit := api.Entry{Kind: api.Commit, Pid: 1, Txn: true}
	abort := api.Entry{Kind: api.Abort, Pid: 1, Txn: true}
	type row struct {
		e    api.Entry
		want api.Errno
	}
	var rows []row
	add := func(want api.Errno, e api.Entry, change func(*api.Entry)) {
		rows = append(rows, row{changed(e, change), want})
	}
	for _, k := range []int{math.MinInt, -1, 0, 4, 16, 17, 18, 19, 257, math.MaxInt} {
		add(api.ErrKind, data, func(e *api.Entry) { e.Kind = k })
	}
	for _, n := range []int{math.MinInt, -1, top + 1, math.MaxInt} {
		for _, e := range []api.Entry{data, commit, abort} {
			add(api.ErrRange, e, func(e *api.Entry) { e.Epoch = n })
			add(api.ErrRange, e, func(e *api.Entry) { e.Pid = n })
			add(api.ErrRange, e, func(e *api.Entry) { e.Ver = n })
			add(api.ErrRange, e, func(e *api.Entry) { e.Seq = n })
		}
	}
	for _, size := range []int{api.MaxText + 1, 300} {
		add(api.ErrSize, data, func(e *api.Entry) { e.Text = strings.Repeat("x", size) })
		add(api.ErrSize, nobody, func(e *api.Entry) { e.Text = strings.Repeat("x", size) })
	}
	// 21 letters of two bytes: the length is told in bytes.
	add(api.ErrSize, data, func(e *api.Entry) { e.Text = strings.Repeat("é", 21) })
	for _, e := range []api.Entry{commit, abort} {
		add(api.ErrForm, e, func(e *api.Entry) { e.Pid = 0 })
		add(api.ErrForm, e, func(e *api.Entry) { e.Txn = false })
		add(api.ErrForm, e, func(e *api.Entry) { e.Seq = 1 })
		add(api.ErrForm, e, func(e *api.Entry) { e.Text = "x" })
	}
	add(api.ErrForm, nobody, func(e *api.Entry) { e.Txn = true })
	add(api.ErrForm, nobody, func(e *api.Entry) { e.Ver = 1 })
	add(api.ErrForm, nobody, func(e *api.Entry) { e.Seq = 1 })
	for _, r := range rows {
		if got := Check(r.e); got != r.want {
			t.Errorf("Check(%+v) = %v, want %v", r.e, got, r.want)
		}
	}
}

// TestCheckOrder: P1.1, of several errors the one named first.
func TestCheckOrder(t *testing.T) {
	long := strings.Repeat("x", api.MaxText+1)
	for _, c := range []struct {
		e    api.Entry
		want api.Errno
	}{
		{api.Entry{}, api.ErrKind},
		{api.Entry{Kind: 4, Epoch: -1, Text: long, Txn: true}, api.ErrKind},
		{api.Entry{Kind: api.Data, Seq: top + 1, Text: long, Txn: true}, api.ErrRange},
		{api.Entry{Kind: api.Commit, Seq: -1, Text: long}, api.ErrRange},
		{api.Entry{Kind: api.Data, Seq: 1, Text: long, Txn: true}, api.ErrSize},
		{api.Entry{Kind: api.Abort, Pid: 1, Txn: true, Text: long}, api.ErrSize},
	} {
		if got := Check(c.e); got != c.want {
			t.Errorf("Check(%+v) = %v, want %v", c.e, got, c.want)
		}
	}
}

// TestEncodeBytes: P1.2, byte by byte.
func TestEncodeBytes(t *testing.T) {
	for _, c := range []struct {
		e    api.Entry
		want []byte
	}{
		{api.Entry{Kind: api.Data}, []byte{5, 1, 0, 0, 0, 0, 0, 1}},
		{api.Entry{Epoch: 1, Pid: 200, Seq: 3, Kind: api.Data, Text: "a"}, []byte{7, 1, 1, 200, 1, 0, 3, 97, 5, 24}},
		{api.Entry{Kind: api.Data, Epoch: 2, Pid: 3, Ver: 4, Seq: 5, Txn: true}, []byte{5, 17, 2, 3, 4, 5, 0, 71}},
		{api.Entry{Kind: api.Commit, Pid: 1, Txn: true}, []byte{5, 18, 0, 1, 0, 0, 0, 21}},
		{api.Entry{Kind: api.Abort, Epoch: 9, Pid: 1, Ver: 2, Txn: true}, []byte{5, 19, 9, 1, 2, 0, 0, 48}},
		{api.Entry{Kind: api.Data, Epoch: 127}, []byte{5, 1, 127, 0, 0, 0, 0, 255}},
		{api.Entry{Kind: api.Data, Epoch: 128}, []byte{6, 1, 128, 1, 0, 0, 0, 1, 4}},
		{api.Entry{Kind: api.Data, Epoch: 16384}, []byte{7, 1, 128, 128, 1, 0, 0, 0, 2, 133}},
		{api.Entry{Kind: api.Data, Epoch: top}, []byte{9, 1, 128, 128, 128, 128, 4, 0, 0, 0, 7, 25}},
	} {
		got, refused := Encode(c.e)
		if refused != api.OK || !bytes.Equal(got, c.want) {
			t.Errorf("Encode(%+v) = %v, %v, want %v", c.e, got, refused, c.want)
		}
	}
}

// TestEncodeSum: P1.2, a sum that goes beyond 65521: 1 + 3 + 255 times (6 + .. + 45) is 260104, and 63541 of it is left.
func TestEncodeSum(t *testing.T) {
	b := encoded(t, api.Entry{Kind: api.Data, Pid: 1, Text: strings.Repeat("\xff", api.MaxText)})
	if len(b) != 48 || b[0] != 45 || b[46] != 63541>>8 || b[47] != 63541&255 {
		t.Errorf("got %v", b)
	}
	for _, e := range samples() {
		b := encoded(t, e)
		if want := sealed(b[1 : len(b)-2]...); !bytes.Equal(b, want) {
			t.Errorf("Encode(%+v) = %v, want %v", e, b, want)
		}
	}
}

// TestEncodeRefuses: P1.2, what Check refuses, with no bytes.
func TestEncodeRefuses(t *testing.T) {
	for _, e := range []api.Entry{
		{},
		{Kind: 17, Pid: 1},
		{Kind: api.Data, Epoch: -1},
		{Kind: api.Data, Pid: top + 1},
		{Kind: api.Data, Text: strings.Repeat("x", api.MaxText+1)},
		{Kind: api.Data, Seq: 1},
		{Kind: api.Commit, Txn: true},
	} {
		b, refused := Encode(e)
		if want := Check(e); want == api.OK || refused != want || len(b) != 0 {
			t.Errorf("Encode(%+v) = %v, %v, want no bytes, %v", e, b, refused, want)
		}
	}
}

// TestDecodeAll: P1.3, what Encode wrote comes back, alone and in a row.
func TestDecodeAll(t *testing.T) {
	for _, e := range samples() {
		b := encoded(t, e)
		got, n := Decode(b)
		if n != len(b) || !slices.Equal(got, []api.Entry{e}) {
			t.Errorf("Decode(%v) = %+v, %d, want %+v, %d", b, got, n, e, len(b))
		}
	}
	b := encoded(t, samples()...)
	if got, n := Decode(b); n != len(b) || !slices.Equal(got, samples()) {
		t.Errorf("in a row: %d entries in %d bytes, want %d in %d", len(got), n, len(samples()), len(b))
	}
	for _, b := range [][]byte{nil, {}} {
		if got, n := Decode(b); n != 0 || len(got) != 0 {
			t.Errorf("Decode(%v) = %+v, %d", b, got, n)
		}
	}
}

// TestDecodeCut: P1.3, of bytes that are cut short those entries are left that are whole.
func TestDecodeCut(t *testing.T) {
	entries := samples()[:12]
	b := encoded(t, entries...)
	whole, end := 0, 0
	for cut := range len(b) + 1 {
		if whole < len(entries) && cut == end+len(encoded(t, entries[whole])) {
			whole, end = whole+1, cut
		}
		got, n := Decode(b[:cut]) // the missing bytes stand in the spare room, and do not count
		if n != end || !slices.Equal(got, entries[:whole]) {
			t.Fatalf("cut at %d: %d entries in %d bytes, want %d in %d", cut, len(got), n, whole, end)
		}
	}
}

// TestDecodeStops: P1.3, bytes that Encode does not write end the entries, though one follows.
func TestDecodeStops(t *testing.T) {
	first := api.Entry{Kind: api.Data, Pid: 7, Text: "first"}
	ahead, behind := encoded(t, first), encoded(t, api.Entry{Kind: api.Data, Text: "behind"})
	text := func(n int) []byte { return append([]byte{1, 0, 0, 0, 0}, strings.Repeat("x", n)...) }
	for name, bad := range map[string][]byte{
		"no body":                 sealed(),
		"only a kind":             sealed(1),
		"three numbers":           sealed(1, 0, 0, 0),
		"a number goes on":        sealed(1, 0, 0, 0, 128),
		"kind 0":                  sealed(0, 0, 0, 0, 0),
		"kind 4":                  sealed(4, 0, 1, 0, 0),
		"kind 16":                 sealed(16, 0, 1, 0, 0),
		"kind 33":                 sealed(33, 0, 1, 0, 0),
		"kind 49":                 sealed(49, 0, 1, 0, 0),
		"kind 129":                sealed(129, 0, 1, 0, 0),
		"kind 145":                sealed(145, 0, 1, 0, 0),
		"a long 0":                sealed(1, 128, 0, 0, 0, 0),
		"a long 1":                sealed(1, 0, 129, 0, 0, 0),
		"a longer 1":              sealed(1, 0, 1, 0, 129, 128, 0),
		"above MaxNumber":         sealed(1, 129, 128, 128, 128, 4, 0, 0, 0),
		"six bytes":               sealed(1, 128, 128, 128, 128, 128, 1, 0, 0, 0),
		"ten bytes":               sealed(1, 255, 255, 255, 255, 255, 255, 255, 255, 255, 1, 0, 0, 0),
		"eleven bytes":            sealed(1, 129, 128, 128, 128, 128, 128, 128, 128, 128, 128, 1, 0, 0, 0),
		"all go on":               sealed(bytes.Repeat([]byte{128}, 255)...),
		"text too long":           sealed(text(api.MaxText + 1)...),
		"longest body":            sealed(text(250)...),
		"commit of nobody":        sealed(18, 0, 0, 0, 0),
		"commit of no txn":        sealed(2, 0, 1, 0, 0),
		"abort with a seq":        sealed(19, 0, 1, 0, 1),
		"abort with a text":       sealed(19, 0, 1, 0, 0, 'x'),
		"nobody with a txn":       sealed(17, 0, 0, 0, 0),
		"nobody with a ver":       sealed(1, 0, 0, 1, 0),
		"nobody with a seq":       sealed(1, 0, 0, 0, 1),
		"sum of higher byte last": {5, 1, 0, 0, 0, 0, 1, 0},
		"sum too low":             {5, 1, 0, 0, 0, 0, 0, 0},
		"sum too high":            {5, 1, 0, 0, 0, 0, 0, 2},
		"sum not reduced":         unreduced(),
	} {
		b := slices.Concat(ahead, bad, behind)
		got, n := Decode(b)
		if n != len(ahead) || !slices.Equal(got, []api.Entry{first}) {
			t.Errorf("%s: %+v, %d, want only the first entry, %d", name, got, n, len(ahead))
		}
	}
}

// unreduced: an entry whose bytes add up to 65521 just; its sum is 0, but it says 65521.
func unreduced() []byte {
	body := append([]byte{1, 0, 1, 0, 0}, bytes.Repeat([]byte{0}, api.MaxText)...)
	left := 65521 - 4
	for i := len(body) - 1; i >= 5; i-- {
		c := min(255, left/(i+1))
		body[i], left = byte(c), left-c*(i+1)
	}
	if b := sealed(body...); left == 0 && b[len(b)-2] == 0 && b[len(b)-1] == 0 {
		return append(b[:len(b)-2], 65521>>8, 65521&255)
	}
	panic("the bytes do not add up")
}

// TestDecodeChanged: P1.3, whatever one byte is, what is decoded is what Encode writes.
func TestDecodeChanged(t *testing.T) {
	for _, e := range samples() {
		b := encoded(t, e, api.Entry{Kind: api.Data, Text: "behind"})
		for i := range b {
			was := b[i]
			for c := range 256 {
				b[i] = byte(c)
				got, n := Decode(b)
				if n > len(b) || !bytes.Equal(encoded(t, got...), b[:n]) {
					t.Fatalf("Decode(%v) = %+v, %d", b, got, n)
				}
				if one, size := Decode(b[n:]); size != 0 || len(one) != 0 {
					t.Fatalf("Decode(%v) ends at %d, ahead of %+v", b, n, one)
				}
			}
			b[i] = was
		}
	}
}

// TestMemory: nothing that is handed in is changed or kept, and what comes out is new.
func TestMemory(t *testing.T) {
	e := api.Entry{Kind: api.Data, Pid: 3, Text: "text"}
	one, two := encoded(t, e), encoded(t, e)
	want := slices.Clone(two)
	clear(one[:cap(one)])
	if !bytes.Equal(two, want) {
		t.Error("two answers of Encode share memory")
	}
	room := append(slices.Clone(want), 1, 2, 3)
	b := room[:len(want)]
	got, _ := Decode(b)
	again, _ := Decode(b)
	if !bytes.Equal(room, append(slices.Clone(want), 1, 2, 3)) {
		t.Error("Decode changed what was handed in")
	}
	clear(room)
	if !slices.Equal(got, []api.Entry{e}) {
		t.Error("Decode kept what was handed in")
	}
	clear(got[:cap(got)])
	if !slices.Equal(again, []api.Entry{e}) {
		t.Error("two answers of Decode share memory")
	}
}

// FuzzDecode: P1.3, at any bytes.
func FuzzDecode(f *testing.F) {
	for _, e := range samples() {
		b, _ := Encode(e)
		f.Add(b)
	}
	f.Fuzz(func(t *testing.T, b []byte) {
		got, n := Decode(b)
		if n < 0 || n > len(b) || !bytes.Equal(encoded(t, got...), b[:n]) {
			t.Fatalf("Decode(%v) = %+v, %d", b, got, n)
		}
	})
}
