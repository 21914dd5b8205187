package net_test

import (
	"math"
	"slices"
	"strconv"
	"strings"
	"testing"

	"watershed/api"
	"watershed/net"
	"watershed/nettest"
)

// empty tells whether a net is the zero value.
func empty(n api.Net) bool {
	return nettest.Same(n, api.Net{})
}

func TestP101RowReads(t *testing.T) {
	for s, want := range map[string][]int{
		"":                                 nil,
		"0":                                {0},
		"7":                                {7},
		"-7":                               {-7},
		"10":                               {10},
		"3 0 -12 0":                        {3, 0, -12, 0},
		"2147483648 2147483649":            {1 << 31, 1<<31 + 1},
		"999999999999999 -999999999999999": {999999999999999, -999999999999999},
	} {
		got, is := net.Row(s)
		if !is || !slices.Equal(got, want) {
			t.Errorf("Row %q: %v, %v", s, got, is)
		}
		if back := net.RowText(got...); back != s {
			t.Errorf("RowText of Row %q: %q", s, back)
		}
	}
}

func TestP101RowRefuses(t *testing.T) {
	for _, s := range []string{
		" ", "  ", " 1", "1 ", "1  2", "1\t2", "1\n", "\n", "1\n2", "1\r", "1\x002", "1\u00a02",
		"a", "1a", "a1", "1 a", "1 2 x", "1,2", "1.0", "1e3", "1_0", "0x1", "٣",
		"00", "01", "-0", "-00", "-01", "-", "--1", "+1", "1-", "1-2", "- 1", "1 -",
		"1000000000000000", "-1000000000000000", "1 1000000000000000", "1000000000000000 1",
		"9223372036854775807", "9223372036854775808", "18446744073709551616", "18446744073709551617",
		"-9223372036854775808", strings.Repeat("9", 400), "1" + strings.Repeat("0", 64),
	} {
		if got, is := net.Row(s); is || len(got) > 0 {
			t.Errorf("Row %q: %v, %v", s, got, is)
		}
	}
}

func TestP101RowText(t *testing.T) {
	for want, l := range map[string][]int{
		"":                     nil,
		"0":                    {0},
		"-1":                   {-1},
		"5 -3 0":               {5, -3, 0},
		"1000000000000000":     {1e15},
		"-9223372036854775808": {math.MinInt},
		"9223372036854775807":  {math.MaxInt},
	} {
		if got := net.RowText(l...); got != want {
			t.Errorf("RowText %v: %q, not %q", l, got, want)
		}
	}
}

// small has a vertex without darts, two edges between the same two vertices, and one that ends where it begins.
func small() api.Net {
	return api.Net{N: 3, Tail: []int{0, 2, 2, 0, 2, 2}, Next: []int{3, 4, 5, 0, 2, 1}, Cap: []int{5, 6, 0, 1 << 31, 7, 8}}
}

const smallText = "net 3\nedge 0 2 5 6\nedge 2 0 0 2147483648\nedge 2 2 7 8\nturn 0 3\nturn\nturn 1 4 2 5\n"

func TestP102Text(t *testing.T) {
	for _, c := range []struct {
		net  api.Net
		want string
	}{
		{api.Net{}, "net 0\n"},
		{api.Net{N: 1}, "net 1\nturn\n"},
		{api.Net{N: 2, Tail: []int{}, Next: []int{}, Cap: []int{}}, "net 2\nturn\nturn\n"},
		{api.Net{N: 1, Tail: []int{0, 0}, Next: []int{1, 0}, Cap: []int{0, 1}}, "net 1\nedge 0 0 0 1\nturn 0 1\n"},
		{api.Net{N: 2, Tail: []int{1, 0}, Next: []int{0, 1}, Cap: []int{3, 4}}, "net 2\nedge 1 0 3 4\nturn 1\nturn 0\n"},
		{small(), smallText},
	} {
		if got := net.Text(c.net); got != c.want {
			t.Errorf("Text %v: %q, not %q", c.net, got, c.want)
		}
	}
}

func TestP102ParseTakes(t *testing.T) {
	for _, s := range []string{
		smallText,
		strings.TrimSuffix(smallText, "\n"),
		strings.Replace(smallText, "turn 0 3", "turn 3 0", 1),
		strings.Replace(smallText, "1 4 2 5", "4 2 5 1", 1),
		strings.Replace(smallText, "1 4 2 5", "5 1 4 2", 1),
	} {
		n, at, e := net.Parse(s)
		if !nettest.Same(n, small()) || at != 0 || e != api.OK {
			t.Errorf("Parse %q: %v, %d, %v", s, n, at, e)
		}
	}
	for s, vertices := range map[string]int{
		"net 0": 0, "net 0\n": 0, "net 1\nturn": 1, "net 1\nturn\n": 1, "net 60\n" + strings.Repeat("turn\n", 60): 60,
	} {
		n, at, e := net.Parse(s)
		if !nettest.Same(n, api.Net{N: vertices}) || at != 0 || e != api.OK {
			t.Errorf("Parse %q: %v, %d, %v", s, n, at, e)
		}
	}
}

// fault is a text and what Parse is to say of it.
type fault struct {
	text string
	at   int
	err  api.Errno
}

func refuses(t *testing.T, l []fault) {
	t.Helper()
	for _, f := range l {
		n, at, e := net.Parse(f.text)
		if at != f.at || e != f.err || !empty(n) {
			t.Errorf("Parse %q: %v, %d, %v, not %d, %v", f.text[:min(len(f.text), 60)], n, at, e, f.at, f.err)
		}
	}
}

func TestP102NoSuchLine(t *testing.T) {
	refuses(t, []fault{
		{"", 1, api.BadText}, {"\n", 1, api.BadText}, {"\nnet 0\n", 1, api.BadText}, {"x", 1, api.BadText},
		{"net", 1, api.BadText}, {"net ", 1, api.BadText}, {"net  1", 1, api.BadText}, {" net 1", 1, api.BadText},
		{"net 1 ", 1, api.BadText}, {"net 1 1", 1, api.BadText}, {"net1", 1, api.BadText}, {"Net 1", 1, api.BadText},
		{"nets 1", 1, api.BadText}, {"net\t1", 1, api.BadText}, {"net 1\r\nturn", 1, api.BadText}, {"net x", 1, api.BadText},
		{"net -1", 1, api.BadText}, {"net -0", 1, api.BadText}, {"net 00", 1, api.BadText}, {"net 01", 1, api.BadText}, {"net +1", 1, api.BadText},
		{"net -99999999999999999999", 1, api.BadText},
		{"net 1\nedge", 2, api.BadText}, {"net 1\nedge ", 2, api.BadText}, {"net 1\nedge 0 0 1", 2, api.BadText},
		{"net 1\nedge 0 0 1 1 1", 2, api.BadText}, {"net 1\nedge 0  0 1 1", 2, api.BadText}, {"net 1\nedge 0 0 1 1 ", 2, api.BadText},
		{"net 1\nedge -1 0 1 1", 2, api.BadText}, {"net 1\nedge 0 -1 1 1", 2, api.BadText}, {"net 1\nedge 0 0 -1 1", 2, api.BadText},
		{"net 1\nedge 0 0 1 -1", 2, api.BadText}, {"net 1\nedge 0 0 1 x", 2, api.BadText}, {"net 1\nedges 0 0 1 1", 2, api.BadText},
		{"net 1\nturn ", 2, api.BadText}, {"net 1\nturn x", 2, api.BadText}, {"net 1\n turn", 2, api.BadText}, {"net 1\nturns", 2, api.BadText},
		{"net 1\nedge 0 0 1 1\nturn 0 1 ", 3, api.BadText}, {"net 1\nedge 0 0 1 1\nturn 0  1", 3, api.BadText},
		{"net 1\nedge 0 0 1 1\nturn 0 -1", 3, api.BadText}, {"net 1\nedge 0 0 1 1\nturn 0 01", 3, api.BadText},
		{"net 1\n\nturn", 2, api.BadText}, {"net 1\nturn\n\n", 3, api.BadText}, {"net 0\n\n", 2, api.BadText},
	})
}

func TestP102NotWhereItMayStand(t *testing.T) {
	refuses(t, []fault{
		{"turn", 1, api.BadText}, {"edge 0 0 1 1", 1, api.BadText}, {"net 1\nnet 1\nturn", 2, api.BadText},
		{"net 1\nturn\nnet 1", 3, api.BadText}, {"net 1\nturn\nedge 0 0 1 1", 3, api.BadText}, {"net 2\nturn\nedge 0 0 1 1\nturn", 3, api.BadText},
		{"net 0\nturn", 2, api.BadText}, {"net 1\nturn\nturn", 3, api.BadText}, {"net 1\nturn\nx", 3, api.BadText},
		{"net 1", 2, api.BadText}, {"net 1\n", 2, api.BadText}, {"net 2\nturn", 3, api.BadText}, {"net 2\nturn\n", 3, api.BadText},
		{"net 1\nedge 0 0 1 1", 3, api.BadText}, {"net 60\n" + strings.Repeat("turn\n", 59), 61, api.BadText},
	})
}

func TestP102Bounds(t *testing.T) {
	full := "net 1\n" + strings.Repeat("edge 0 0 1 1\n", api.MaxEdges)
	refuses(t, []fault{
		{"net 61", 1, api.TooMany}, {"net 61\nx", 1, api.TooMany}, {full + "edge 0 0 1 1", 122, api.TooMany},
		{full + "edge 1 0 2147483649 1", 122, api.TooMany}, {full + "edge 0 0 1", 122, api.BadText}, {full, 122, api.BadText},
		{"net 0\nedge 0 0 1 1", 2, api.BadVertex}, {"net 2\nedge 2 0 1 1", 2, api.BadVertex}, {"net 2\nedge 0 2 1 1", 2, api.BadVertex},
		{"net 2\nedge 0 2 2147483649 2147483649", 2, api.BadVertex},
		{"net 2\nedge 0 1 2147483649 0", 2, api.TooMuch}, {"net 2\nedge 0 1 0 2147483649", 2, api.TooMuch},
		{"net 2\nedge 0 1 1 1\nedge 0 1 0 2147483649\nx", 3, api.TooMuch}, {"net 2\nedge 0 2 1 1\nx", 2, api.BadVertex},
	})
	all := make([]int, 2*api.MaxEdges)
	for d := range all {
		all[d] = d
	}
	if n, at, e := net.Parse(full + "turn " + net.RowText(all...)); len(n.Tail) != len(all) || at != 0 || e != api.OK {
		t.Errorf("120 edges: %d darts, %d, %v", len(n.Tail), at, e)
	}
}

// A number is one by W5 however many digits it has: the bound that it breaks refuses it, and no wrap-round lets it in.
func TestP102NumbersBeyondWords(t *testing.T) {
	for _, x := range []string{"1000000000000000", "9223372036854775808", "18446744073709551616", "18446744073709551617", strings.Repeat("9", 300)} {
		refuses(t, []fault{
			{"net " + x, 1, api.TooMany},
			{"net 2\nedge " + x + " 0 1 1", 2, api.BadVertex},
			{"net 2\nedge 0 " + x + " 1 1", 2, api.BadVertex},
			{"net 2\nedge 0 1 " + x + " 1", 2, api.TooMuch},
			{"net 2\nedge 0 1 1 " + x, 2, api.TooMuch},
			{"net 2\nedge 0 1 1 1\nturn " + x, 3, api.BadDart},
		})
	}
}

func TestP102Turns(t *testing.T) {
	two := "net 2\nedge 0 1 1 1\n"
	loop := "net 1\nedge 0 0 1 1\n"
	refuses(t, []fault{
		{"net 1\nturn 0", 2, api.BadDart}, {two + "turn 2", 3, api.BadDart}, {two + "turn 1\nturn 0", 3, api.BadDart},
		{two + "turn 0\nturn 0", 4, api.BadDart}, {two + "turn 0 1\nturn", 3, api.BadDart}, {two + "turn 0 0 1", 3, api.BadDart},
		{two + "turn 0 0 2", 3, api.BadDart},
		{two + "turn\nturn 1", 3, api.BadNext}, {two + "turn 0\nturn", 4, api.BadNext}, {two + "turn 0 0\nturn 1", 3, api.BadNext},
		{loop + "turn", 3, api.BadNext}, {loop + "turn 1", 3, api.BadNext}, {loop + "turn 0 0", 3, api.BadNext}, {loop + "turn 0 1 0", 3, api.BadNext},
		{loop + "turn 0\nx", 3, api.BadNext},
	})
}

func TestP102Length(t *testing.T) {
	long := "net 61\n" + strings.Repeat("\n", api.MaxText-7)
	refuses(t, []fault{
		{long, 1, api.TooMany}, {long + "\n", 1, api.BadText},
		{"net 1\n" + strings.Repeat("x", api.MaxText-6), 2, api.BadText}, {"net 1\n" + strings.Repeat("x", api.MaxText-5), 1, api.BadText},
	})
}

func TestP103ParseOfText(t *testing.T) {
	dice := nettest.NewDice(1)
	for range 500 {
		n := dice.Any(1+dice.Of(api.MaxVertices), dice.Of(api.MaxEdges+1))
		m, at, e := net.Parse(net.Text(n))
		if !nettest.Same(m, n) || at != 0 || e != api.OK {
			t.Fatalf("%v: %v, %d, %v", n, m, at, e)
		}
	}
	if m, at, e := net.Parse(net.Text(api.Net{})); !empty(m) || at != 0 || e != api.OK {
		t.Errorf("no vertices: %v, %d, %v", m, at, e)
	}
}

// The longest text that a net has is one that Parse takes.
func TestP103Greatest(t *testing.T) {
	n := api.Net{N: api.MaxVertices}
	for d := range 2 * api.MaxEdges {
		n.Tail, n.Cap = append(n.Tail, api.MaxVertices-1), append(n.Cap, api.MaxCap)
		n.Next = append(n.Next, (d+1)%(2*api.MaxEdges))
	}
	if m, at, e := net.Parse(net.Text(n)); !nettest.Same(m, n) || at != 0 || e != api.OK {
		t.Errorf("%d, %v", at, e)
	}
}

// Of what is no net only P1 holds, and that the same is answered again (P3).
func TestP1Text(t *testing.T) {
	three := []int{0, 0, 0}
	for _, n := range []api.Net{
		{N: -1}, {N: math.MinInt}, {N: 61}, {N: math.MaxInt}, {N: 1, Tail: three, Next: three, Cap: three},
		{N: 1, Tail: []int{0, 0}}, {N: 1, Next: []int{0, 0}}, {N: 1, Cap: []int{0, 0}},
		{N: 1, Tail: []int{0, 0}, Next: []int{1, 0}, Cap: []int{1}}, {N: 1, Tail: []int{0, 0}, Next: []int{1}, Cap: []int{1, 1}},
		{N: 1, Tail: []int{0, 1}, Next: []int{0, 1}, Cap: []int{1, 1}}, {N: 1, Tail: []int{0, -1}, Next: []int{0, 1}, Cap: []int{1, 1}},
		{N: 1, Tail: []int{0, 0}, Next: []int{2, 0}, Cap: []int{1, 1}}, {N: 1, Tail: []int{0, 0}, Next: []int{1, -1}, Cap: []int{1, 1}},
		{N: 1, Tail: []int{0, 0}, Next: []int{1, 1}, Cap: []int{1, 1}}, {N: 2, Tail: []int{0, 1}, Next: []int{1, 0}, Cap: []int{-1, math.MaxInt}},
		{N: 1, Tail: make([]int, 4), Next: []int{-1, 0, 0, 0}, Cap: make([]int, 4)}, {N: 1, Tail: make([]int, 4), Next: []int{4, 0, 0, 0}, Cap: make([]int, 4)},
		{N: 1, Tail: make([]int, 242), Next: make([]int, 242), Cap: make([]int, 242)},
	} {
		first := net.Text(n)
		if second := net.Text(n); second != first {
			t.Errorf("%v: %q, then %q", n, first, second)
		}
	}
}

func TestP1Parse(t *testing.T) {
	dice := nettest.NewDice(2)
	pieces := []string{"net ", "edge ", "turn", " ", "\n", "-", "0", "1", "2", "60", "2147483648", "\x00", "\xff", "é"}
	for range 20000 {
		b := []byte(net.Text(dice.Any(1+dice.Of(4), dice.Of(5))))
		for range dice.Of(4) {
			i := dice.Of(len(b))
			b = slices.Concat(b[:i], []byte(pieces[dice.Of(len(pieces))]), b[min(len(b), i+dice.Of(3)):])
		}
		n, at, e := net.Parse(string(b))
		if e != api.OK && (!empty(n) || at < 1 || at > strings.Count(string(b), "\n")+2) {
			t.Fatalf("%q: %v, %d, %v", b, n, at, e)
		}
		if m, _, f := net.Parse(net.Text(n)); e == api.OK && (at != 0 || f != api.OK || !nettest.Same(m, n)) {
			t.Fatalf("%q: %v, %d, then %v, %v", b, n, at, m, f)
		}
	}
}

func TestP2HandedIn(t *testing.T) {
	n := nettest.Roomy(small())
	unchanged := nettest.Watch(n.Tail, n.Next, n.Cap)
	net.Text(n)
	net.RowText(n.Cap...)
	if !unchanged() {
		t.Errorf("handed in %v", n)
	}
}

func TestP2Answered(t *testing.T) {
	n, _, _ := net.Parse(smallText)
	if !nettest.Apart(n.Tail, n.Next, n.Cap) {
		t.Error("two lists of one answer share their room")
	}
	if m, _, _ := net.Parse(smallText); !nettest.Same(m, small()) {
		t.Error("a later answer shares what was written over")
	}
}

// FuzzRow holds Row against the library's reader of numbers.
func FuzzRow(f *testing.F) {
	for _, s := range []string{"", "0", "-1 2", "01", "-0", "+1", " ", "999999999999999", "1000000000000000"} {
		f.Add(s)
	}
	f.Fuzz(func(t *testing.T, s string) {
		var want []int
		right := true
		for _, part := range strings.Split(s, " ") {
			x, err := strconv.Atoi(part)
			right = right && err == nil && strconv.Itoa(x) == part && x < 1e15 && x > -1e15
			want = append(want, x)
		}
		if s == "" {
			want, right = nil, true
		}
		got, is := net.Row(s)
		if is != right || right && !slices.Equal(got, want) || !is && len(got) > 0 {
			t.Fatalf("Row %q: %v, %v, not %v, %v", s, got, is, want, right)
		}
	})
}
