package cases_test

import (
	"slices"
	"testing"

	"gyttja/api"
	"gyttja/cases"
)

// P5.1: the limits of questions.
func TestCheckQuestion(t *testing.T) {
	good := claim(5, 6, 3, 3, 2)
	for name, c := range map[string]struct {
		q api.Question
		e api.Errno
	}{
		"the first of the example":    {example().Questions[0], api.OK},
		"the second of the example":   {example().Questions[1], api.OK},
		"one choice":                  {open(2, 1), api.OK},
		"60 choices":                  {open(2, 60), api.OK},
		"choices that are the same":   {question(2, claims(good, good), claims(good, good)), api.OK},
		"more claims than a list has": {question(2, repeat(good, 401)), api.OK},
		"more marks than a net has":   {question(2, chainOf(100, 2)), api.OK},
		"a contradiction":             {question(2, claims(good, claim(5, 6, 4, 4, 2))), api.OK},
		"the first source":            {question(1, claims(claim(0, 2048, -100000, 100000, 1))), api.OK},
		"the last source":             {question(99999, claims(claim(2048, 0, 100000, 100000, 99999))), api.OK},
		"nothing":                     {api.Question{}, api.ErrQuestion},
		"no choice":                   {open(2, 0), api.ErrQuestion},
		"61 choices":                  {open(2, 61), api.ErrQuestion},
		"no source":                   {open(0, 1), api.ErrQuestion},
		"a source below all":          {open(-1, 1), api.ErrQuestion},
		"a source above all":          {open(100000, 1), api.ErrQuestion},
		"a claim by no source":        {question(0, claims(claim(5, 6, 3, 3, 0))), api.ErrQuestion},
		"a claim by another source":   {question(2, claims(good, claim(5, 6, 3, 3, 3))), api.ErrQuestion},
		"another source, further on":  {question(2, claims(good), nil, claims(good, claim(5, 6, 3, 3, 1))), api.ErrQuestion},
		"a mark with itself":          {question(2, claims(claim(5, 5, 3, 3, 2))), api.ErrQuestion},
		"a mark beyond all":           {question(2, nil, claims(good, claim(5, 2049, 3, 3, 2))), api.ErrQuestion},
		"a mark below all":            {question(2, claims(good), claims(claim(-1, 5, 3, 3, 2))), api.ErrQuestion},
		"too many years":              {question(2, claims(claim(5, 6, 3, 100001, 2))), api.ErrQuestion},
		"too few years":               {question(2, claims(claim(5, 6, -100001, 3, 2))), api.ErrQuestion},
		"no years":                    {question(2, claims(claim(5, 6, 4, 3, 2))), api.ErrQuestion},
	} {
		if e := cases.CheckQuestion(c.q); e != c.e {
			t.Error(name, e)
		}
	}
}

// goodWorlds are at the limits.
func goodWorlds() map[string]api.World {
	good := claim(1, 2, 0, 0, 1)
	return map[string]api.World{
		"nothing":                   {},
		"empty lists":               {Claims: []api.Claim{}, Questions: []api.Question{}},
		"the example":               example(),
		"no leaf":                   broken(),
		"loose marks":               loose(),
		"claims alone":              world(chainOf(64, 1)),
		"no claims":                 world(nil, question(1, chainOf(64, 1))),
		"six questions":             world(nil, questions(open(1, 3), 6)...),
		"3000 leaves":               world(nil, open(1, 60), open(2, 50)),
		"3000 leaves, three more":   world(nil, open(1, 2), open(2, 50), open(3, 1), open(4, 1), open(5, 30)),
		"400 claims":                world(repeat(good, 400), open(1, 3)),
		"400 claims with a choice":  world(repeat(good, 399), question(1, claims(good), claims(good), nil)),
		"400 claims with two":       world(repeat(good, 397), question(1, claims(good), repeat(good, 2)), question(1, claims(good))),
		"400 claims of a choice":    world(nil, question(1, repeat(good, 400), repeat(good, 400))),
		"64 marks with a choice":    world(chainOf(62, 1), question(1, nil, claims(claim(0, 2048, 0, 0, 1))), question(1, chainOf(62, 1))),
		"64 marks of choices":       world(nil, question(1, chainOf(32, 1), claims(claim(2047, 2048, 0, 0, 1))), question(2, claims(claim(0, 101, 0, 0, 2)), chainOf(60, 2))),
		"sources that are the same": world(claims(good), question(1, claims(good)), question(1, claims(good), nil)),
	}
}

// P5.1: the limits of worlds.
func TestCheck(t *testing.T) {
	for name, w := range goodWorlds() {
		if e := cases.Check(w); e != api.OK {
			t.Error(name, e)
		}
	}
	for name, c := range badWorlds() {
		if e := cases.Check(c.w); e != c.e {
			t.Error(name, e)
		}
	}
}

// P5.1: the claims at choices.
func TestAt(t *testing.T) {
	for _, c := range []struct {
		w       api.World
		choices []int
		want    []api.Claim
		e       api.Errno
	}{
		{api.World{}, nil, nil, api.OK}, {api.World{}, []int{}, nil, api.OK}, {world(chainOf(4, 1)), nil, chainOf(4, 1), api.OK},
		{example(), []int{1, 2}, claims(claim(0, 5, 10, 12, 1), claim(5, 6, 8, 9, 2), claim(0, 6, 14, 20, 3)), api.OK},
		{example(), []int{0, 0}, claims(claim(0, 5, 10, 12, 1), claim(5, 6, 3, 3, 2)), api.OK},
		{example(), []int{0, 1}, claims(claim(0, 5, 10, 12, 1), claim(5, 6, 3, 3, 2), claim(0, 6, 30, 40, 3)), api.OK},
		{world(nil, question(1, chainOf(4, 1), nil), open(2, 1)), []int{0, 0}, chainOf(4, 1), api.OK},
		{example(), nil, nil, api.ErrChoice}, {example(), []int{1}, nil, api.ErrChoice}, {example(), []int{0, 0, 0}, nil, api.ErrChoice}, {api.World{}, []int{0}, nil, api.ErrChoice},
		{example(), []int{2, 0}, nil, api.ErrChoice}, {example(), []int{0, 3}, nil, api.ErrChoice}, {example(), []int{-1, 0}, nil, api.ErrChoice}, {example(), []int{0, -1}, nil, api.ErrChoice},
		{example(), []int{extremes[0], 0}, nil, api.ErrChoice}, {example(), extremes, nil, api.ErrChoice},
	} {
		if l, e := cases.At(c.w, c.choices); !slices.Equal(l, c.want) || e != c.e {
			t.Error(c, l, e)
		}
	}
}

// P5.1: the claims at all choices of some worlds.
func TestAtAllChoices(t *testing.T) {
	d := dice(1)
	for range 100 {
		w := someWorld(d)
		for _, way := range ways(w, len(w.Questions)) {
			if l, e := cases.At(w, way); !slices.Equal(l, behind(w, way)) || e != api.OK {
				t.Fatal(w, way, l, e)
			}
		}
	}
}

// P5.1: the sources of claims and questions.
func TestSources(t *testing.T) {
	for _, c := range []struct {
		w    api.World
		want []int
	}{
		{api.World{}, nil}, {example(), []int{1, 2, 3}}, {broken(), []int{1, 2, 3, 4}}, {world(nil, open(7, 2), open(3, 1), open(7, 1)), []int{3, 7}},
		{world(claims(claim(1, 2, 0, 0, 99999), claim(1, 2, 0, 0, 5), claim(1, 2, 0, 0, 99999)), open(5, 1), open(1, 1)), []int{1, 5, 99999}},
	} {
		if by := cases.Sources(c.w); !slices.Equal(by, c.want) {
			t.Error(c, by)
		}
	}
	for name, c := range badWorlds() {
		if by := cases.Sources(c.w); len(by) > 0 {
			t.Error(name, by)
		}
	}
}

// P5.1: the world without sources, of worlds that are not valid, too.
func TestWithout(t *testing.T) {
	q := example().Questions
	odd := world(claims(claim(1, 1, 5, 0, -7), claim(1, 1, 5, 0, 3)), open(-7, 0), question(3, claims(claim(1, 2, 0, 0, -7)), nil), open(0, 100))
	for _, c := range []struct {
		w    api.World
		by   []int
		want api.World
	}{
		{example(), nil, example()}, {example(), []int{}, example()}, {example(), []int{0, 4, -1}, example()},
		{example(), []int{2}, world(example().Claims, q[1])}, {example(), []int{3}, world(example().Claims, q[0])}, {example(), []int{1}, world(nil, q...)},
		{example(), []int{3, 1, 3}, world(nil, q[0])}, {example(), []int{3, 1, 2}, api.World{}}, {api.World{}, []int{1}, api.World{}}, {broken(), []int{4}, example()},
		{odd, nil, odd}, {odd, []int{-7}, world(odd.Claims[1:], odd.Questions[1:]...)}, {odd, []int{3}, world(odd.Claims[:1], odd.Questions[0], odd.Questions[2])},
		{odd, extremes, world(odd.Claims, odd.Questions[:2]...)},
	} {
		if w := cases.Without(c.w, c.by); !sameWorlds(w, c.want) {
			t.Error(c, w)
		}
	}
	for name, c := range badWorlds() {
		if w := cases.Without(c.w, []int{77}); !sameWorlds(w, c.w) {
			t.Error(name, w)
		}
	}
}

// P5.1: Sources and Without agree with what the chapter says of some worlds.
func TestWithoutSomeSources(t *testing.T) {
	d := dice(2)
	for range 100 {
		w := someWorld(d)
		by := sourcesOf(w)
		if l := cases.Sources(w); !slices.Equal(l, by) {
			t.Fatal(w, l)
		}
		for set := range 1 << len(by) {
			var out, in []int
			for i, source := range by {
				if set>>i&1 == 1 {
					out = append(out, source)
				} else {
					in = append(in, source)
				}
			}
			if rest := cases.Without(w, out); !sameWorlds(rest, believed(w, in)) {
				t.Fatal(w, out, rest)
			}
		}
	}
}
