package json_test

import (
	"fmt"
	"math/rand"
	"strings"
	"testing"

	"murmuration/api"
	"murmuration/json"
)

// P20.4

func wrote(t *testing.T, v api.Json) string {
	t.Helper()
	s, e := json.Show(v)
	if e != api.OK {
		t.Fatalf("Show of %s: %d", shown(v), int(e))
	}
	return s
}

func TestWhatIsShownIsParsed(t *testing.T) {
	draw := rand.New(rand.NewSource(22))
	said := map[string]string{}
	l := rightValues()
	for range 40000 {
		l = append(l, drawn(draw, 5))
	}
	for _, v := range l {
		if !json.Right(v) {
			t.Fatalf("%s is not right", shown(v))
		}
		s := wrote(t, v)
		parses(t, s, v)
		got, _, _ := json.Parse(s)
		if !json.Same(got, v) || !json.Right(got) || wrote(t, got) != s {
			t.Fatalf("%s: shown, parsed and shown again: %s", s, wrote(t, got))
		}
		if other, there := said[s]; there && other != shown(v) {
			t.Fatalf("%s says %s, and %s", s, shown(v), other)
		}
		said[s] = shown(v)
	}
	if len(said) < 10000 {
		t.Errorf("%d values alone", len(said))
	}
}

// The text of a value has neither blanks outside of its texts nor bytes that are no plain ones.
func TestWhatIsShownIsPlain(t *testing.T) {
	draw := rand.New(rand.NewSource(23))
	for range 20000 {
		s := wrote(t, drawn(draw, 5))
		for i := range len(s) {
			if s[i] < 32 || s[i] > 126 {
				t.Fatalf("%q has a byte %d", s, s[i])
			}
		}
		if bare := wholeQuoted(s); strings.ContainsAny(bare, " \t\n\r") || strings.Contains(bare, "-0") {
			t.Fatalf("%q has %q outside of its texts", s, bare)
		}
	}
}

// wholeQuoted is a text without the texts in it.
func wholeQuoted(s string) string {
	for {
		i := strings.IndexByte(s, '"')
		if i < 0 {
			return s
		}
		s = s[:i] + s[i+len(wholeText.FindString(s[i:])):]
	}
}

func TestWhatIsParsedIsShownAndParsedAgain(t *testing.T) {
	draw := rand.New(rand.NewSource(24))
	for range 40000 {
		s := wildText(draw, drawn(draw, 4))
		v, _, e := json.Parse(s)
		if e != api.OK || !json.Right(v) {
			t.Fatalf("Parse of %q: %s, %d", s, shown(v), int(e))
		}
		parses(t, wrote(t, v), v)
		again, _, _ := json.Parse(wrote(t, v))
		is(t, "Same", json.Same(again, v), true)
	}
}

// P20.2: up to a fault a text can go on, behind it no more.

// finished adds bytes to a text up to where it says a value; false: no byte was found that it can go on with.
func finished(s string) bool {
	for range 200 {
		_, _, e := json.Parse(s)
		if e == api.OK {
			return true
		}
		next, there := goingOn(s)
		if !there {
			return false
		}
		s = next
	}
	return false
}

// goingOn is a text with a byte more, behind which it has come to its end too early, at the worst.
func goingOn(s string) (string, bool) {
	for _, c := range `"]}:0ulrsea` {
		next := s + string(c)
		if _, at, e := json.Parse(next); e == api.OK || e == api.ErrSyntax && at == len(next) {
			return next, true
		}
	}
	return "", false
}

func TestFaultsStandWhereATextCannotGoOn(t *testing.T) {
	draw := rand.New(rand.NewSource(25))
	faults := 0
	for range 8000 {
		s := spoilt(draw, wildText(draw, drawn(draw, 3)))
		_, at, e := json.Parse(s)
		if e != api.ErrSyntax {
			continue
		}
		faults++
		if !finished(s[:at]) {
			t.Fatalf("%q: a fault at %d, but up to there it can't go on", s, at)
		}
		for n := range at {
			if _, p, e := json.Parse(s[:n]); e != api.OK && (e != api.ErrSyntax || p != n) {
				t.Fatalf("%q: a fault at %d, but of its first %d bytes at %d", s, at, n, p)
			}
		}
		// A number that is too great, and a name that stands there already, have their fault at their beginning.
		if at == len(s) || strings.IndexByte(`"-0123456789`, s[at]) >= 0 {
			continue
		}
		for range 5 {
			fails(t, s[:at+1]+drawnText(draw)+wildText(draw, drawn(draw, 1)), at, api.ErrSyntax)
		}
	}
	if faults < 3000 {
		t.Errorf("%d faults alone", faults)
	}
}

// P20.3: what an object was made of can be got.
func TestWhatObjectsWereMadeOf(t *testing.T) {
	draw := rand.New(rand.NewSource(26))
	for range 20000 {
		var l []api.Json
		first := map[string]api.Json{}
		for range draw.Intn(8) {
			name, v := drawn(draw, 1), drawn(draw, 2)
			if draw.Intn(4) > 0 {
				name = text(drawnText(draw))
			}
			l = append(l, name, v)
			if _, there := first[name.S]; name.Kind == api.JsonText && !there {
				first[name.S] = v
			}
		}
		if draw.Intn(2) == 0 {
			l = append(l, text("odd one"))
		}
		o := json.Object(l...)
		is(t, "how many there are of "+shown(o), fmt.Sprint(len(o.Names), len(o.L)), fmt.Sprint(len(first), len(first)))
		is(t, "Right of "+shown(o), json.Right(o), true)
		parses(t, wrote(t, o), o)
		for name, v := range first {
			has(t, o, v, name)
		}
		lacks(t, o, "odd one")
	}
}

// R4
func TestTheSameCallsHaveTheSameAnswers(t *testing.T) {
	for _, v := range rightValues() {
		s := wrote(t, v)
		for range 20 {
			is(t, "Show", wrote(t, v), s)
			parses(t, s, v)
			is(t, "Right", json.Right(v), true)
			is(t, "Same", json.Same(v, v), true)
			has(t, v, v)
		}
		fails(t, s+"x", len(s), api.ErrSyntax)
		parses(t, s, v)
	}
}

// R5
func TestGreatArguments(t *testing.T) {
	many := strings.Repeat("[1,2],", 200000)
	v, _, e := json.Parse("[" + many + "null]")
	is(t, "many lists", fmt.Sprint(len(v.L), int(e)), "200001 0")
	is(t, "shown", wrote(t, v) == "["+many+"null]", true)
	long := strings.Repeat("\xff", 1<<20)
	is(t, "a long text", len(wrote(t, text(long))), 6<<20+2)
	v, _, e = json.Parse(`"` + long + `"`)
	is(t, "a long text is parsed", fmt.Sprint(v.S == long, int(e)), "true 0")
	deep := nested(1<<16, null())
	unshown(t, "deep", deep)
	is(t, "Same", json.Same(deep, nested(1<<16, null())), true)
	is(t, "Same of others", json.Same(deep, nested(1<<16, number(1))), false)
	got, there := json.Get(json.Object(text("a"), deep), "a")
	is(t, "Get", there && json.Same(got, deep), true)
	fails(t, strings.Repeat("[", 1<<22), 16, api.ErrDeep)
	fails(t, strings.Repeat("9", 1<<22), 0, api.ErrSyntax)
	names := json.Object()
	for i := range 20000 {
		names.Names, names.L = append(names.Names, fmt.Sprint(i)), append(names.L, null())
	}
	parses(t, wrote(t, names), names)
}
