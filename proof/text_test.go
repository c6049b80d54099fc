package proof_test

import (
	"math/rand/v2"
	"slices"
	"strings"
	"testing"

	"gyttja/api"
	"gyttja/proof"
)

// P7.1: the texts that Print writes.
func TestPrint(t *testing.T) {
	for text, p := range map[string]api.Proof{
		"proof 0 6 -3\nask 0\nend 0+ 2-\nend\n":          proofOf(0, 6, -3, "ask 0; end 0+ 2-; end"),
		"proof 0 0 0\n":                                  {},
		"proof 2048 2048 1000000000\nend\nend 399- 0+\n": proofOf(2048, 2048, far, "end; end 399- 0+"),
		"proof 1 0 -1000000000\nask 5\nask 5\nask 0\n":   proofOf(1, 0, -far, "ask 5; ask 5; ask 0"),
	} {
		if got, e := proof.Print(p); got != text || e != api.OK {
			t.Errorf("%q %v", got, e)
		}
		if q, at, e := proof.Parse(text); !sameProofs(p, q) || at != 0 || e != api.OK {
			t.Error(text, q, at, e)
		}
	}
}

// unwritable are proofs that cannot be written: each just beyond a limit, or with a field that has no meaning.
func unwritable() map[string]api.Proof {
	node := func(n api.Node) api.Proof { return api.Proof{Nodes: []api.Node{{Question: -1}, n}} }
	return map[string]api.Proof{
		"A below 0":             {A: -1},
		"A that is no mark":     {A: 2049},
		"B below 0":             {B: -1},
		"B that is no mark":     {B: 2049},
		"Most beyond Far":       {Most: far + 1},
		"Most below -Far":       {Most: -far - 1},
		"too many nodes":        {Nodes: slices.Repeat(nodes("end"), 4001)},
		"no such question":      node(api.Node{Question: 6}),
		"a question below -1":   node(api.Node{Question: -2}),
		"a question's chain":    node(api.Node{Question: 0, Chain: make([]api.Step, 1)}),
		"too many steps":        node(api.Node{Question: -1, Chain: make([]api.Step, 401)}),
		"a claim below 0":       node(api.Node{Question: -1, Chain: []api.Step{{}, {Claim: -1}}}),
		"a claim that is none":  node(api.Node{Question: -1, Chain: []api.Step{{}, {Claim: 400, Back: true}}}),
		"too long, and a claim": node(api.Node{Question: -1, Chain: slices.Repeat([]api.Step{{Claim: 400}}, 400)}),
	}
}

// P7.1: proofs that cannot be written, and such whose texts would be too long.
func TestPrintErrors(t *testing.T) {
	for name, p := range unwritable() {
		if text, e := proof.Print(p); text != "" || e != api.ErrForm {
			t.Error(name, text, e)
		}
	}
	for _, n := range extremes {
		text, e := proof.Print(api.Proof{Nodes: []api.Node{{Question: n}, {Question: -1, Chain: []api.Step{{Claim: n}}}}})
		if right := n == 0 || n == 1 || n == 2 || n == 5; (e == api.OK) != right || (text != "") != right {
			t.Error(n, text, e)
		}
	}
	most := api.Proof{Nodes: slices.Repeat(nodes("end"), 4000)}
	if text, e := proof.Print(most); len(text) != 12+4*4000 || e != api.OK {
		t.Error(len(text), e)
	}
}

// longest is a proof whose text has 60000 bytes: 12 of its first line, 49 times 1204, and 992.
func longest() api.Proof {
	step := []api.Step{{Claim: 7}}
	p := api.Proof{}
	for range 49 {
		p.Nodes = append(p.Nodes, api.Node{Question: -1, Chain: slices.Repeat(step, 400)})
	}
	p.Nodes = append(p.Nodes, api.Node{Question: -1, Chain: slices.Repeat(step, 329)})
	p.Nodes[49].Chain[9].Claim = 77
	return p
}

// P7.1, P7.6: a text has up to 60000 bytes.
func TestLongestTexts(t *testing.T) {
	p := longest()
	text, e := proof.Print(p)
	if len(text) != 60000 || e != api.OK {
		t.Fatal(len(text), e)
	}
	for _, same := range []string{text, text[:59999]} {
		if q, at, e := proof.Parse(same); !sameProofs(p, q) || at != 0 || e != api.OK {
			t.Error(at, e)
		}
	}
	for _, long := range []string{text + "\n", text + "#", strings.Repeat("\n", 60001), "x" + text} {
		if q, at, e := proof.Parse(long); !isZero(q) || at != 0 || e != api.ErrLong {
			t.Error(at, e)
		}
	}
	if _, at, e := proof.Parse(strings.Repeat("\n", 60000)); at != 60001 || e != api.ErrForm {
		t.Error(at, e)
	}
	p.Nodes[49].Chain[9].Claim = 177
	if text, e := proof.Print(p); text != "" || e != api.ErrLong {
		t.Error(len(text), e)
	}
	// What can be read but not written: its last line feed is one byte too many.
	if q, at, e := proof.Parse(text[:59999] + "+"); !isZero(q) || at != 51 || e != api.ErrForm {
		t.Error(at, e)
	}
	if q, at, e := proof.Parse(strings.Replace(text[:59999], "77+", "177+", 1)); !sameProofs(p, q) || at != 0 || e != api.OK {
		t.Error(at, e)
	}
	p.Nodes[48].Chain[0].Claim = 400
	if text, e := proof.Print(p); text != "" || e != api.ErrForm {
		t.Error(len(text), e)
	}
}

// P7.1, P7.6: texts of other forms that say the same.
func TestParse(t *testing.T) {
	p := proofOf(0, 6, -3, "ask 0; end 0+ 2-; end")
	for _, text := range []string{
		"proof 0 6 -3\nask 0\nend 0+ 2-\nend", "# of a bound\nproof 0 6 -3\nask 0\n end 0+  2-\nend", "\n\n  proof   0 6  -3  \n#\nask 0 \n   \nend 0+ 2-\n#end\nend\n\n",
	} {
		if q, at, e := proof.Parse(text); !sameProofs(p, q) || at != 0 || e != api.OK {
			t.Error(text, q, at, e)
		}
	}
	bare, at, e := proof.Parse("proof 1 2 3")
	if !sameProofs(bare, api.Proof{A: 1, B: 2, Most: 3}) || at != 0 || e != api.OK {
		t.Error(bare, at, e)
	}
}

// P7.1: the first line that is wrong is told.
func TestParseErrors(t *testing.T) {
	for text, want := range map[string]int{
		"": 1, "\n": 2, "#\n \n": 3, "#": 2,
		"proof 1 2": 1, "proof 1 2 3 4": 1, "proof": 1, "prove 1 2 3": 1, "Proof 1 2 3": 1, "end": 1, "ask 0": 1, " #": 1, "\tproof 1 2 3": 1, "proof 1 2 3\r": 1, "proof\t1 2 3": 1,
		"proof 1 2 -0": 1, "proof 1 2 +3": 1, "proof 1 2 03": 1, "proof 1 2 --3": 1, "proof 1 2 -": 1, "proof 1 2 3-": 1, "proof 1 2 1000000001": 1, "proof 1 2 -1000000001": 1, "proof 1 2 10000000000": 1, "proof 1 2 0000000001": 1,
		"proof -1 2 3": 1, "proof 2049 2 3": 1, "proof 01 2 3": 1, "proof 1 -2 3": 1, "proof 1 2049 3": 1, "proof 1 x 3": 1, "proof 1 18446744073709551617 3": 1, "proof -0 2 3": 1,
		"proof 1 2 3\nask 6": 2, "proof 1 2 3\nask": 2, "proof 1 2 3\nask 0 1": 2, "proof 1 2 3\nask -1": 2, "proof 1 2 3\nask 00": 2, "proof 1 2 3\nask 0+": 2, "proof 1 2 3\nasks 0": 2, "proof 1 2 3\nask 10000000000": 2,
		"proof 1 2 3\n\nend 4": 3, "proof 1 2 3\nend 400+": 2, "proof 1 2 3\nend +": 2, "proof 1 2 3\nend -": 2, "proof 1 2 3\nend 4 +": 2, "proof 1 2 3\nend +4": 2, "proof 1 2 3\nend -4+": 2, "proof 1 2 3\nend 4+-": 2, "proof 1 2 3\nend 4++": 2, "proof 1 2 3\nend 04-": 2, "proof 1 2 3\nend 4+5+": 2, "proof 1 2 3\nend 4*": 2, "proof 1 2 3\nend -0+": 2, "proof 1 2 3\nEnd": 2, "proof 1 2 3\n" + loops(401): 2, "proof 1 2 3\nend 0+\t0-": 2,
		"proof 1 2 3\nproof 1 2 3": 2, "proof 1 2 3\nend\n#\nend\nxx\nend 4": 5, "proof 1 2 3\nend\n #\nend": 3,
		"proof 1 2 3\n" + strings.Repeat("end\n", 4001): 4002, "proof 1 2 3\n" + strings.Repeat("end\n\n", 4000) + "\nend 4\n": 8003, "proof 1 2 3\n" + strings.Repeat("end\n", 4000) + "x": 4002, "proof 1 2 3\nx\n" + strings.Repeat("end\n", 4001): 2,
	} {
		if p, at, e := proof.Parse(text); !isZero(p) || at != want || e != api.ErrForm {
			t.Errorf("%.40q %v %d %v", text, p.A, at, e)
		}
	}
	p, at, e := proof.Parse("proof 1 2 3\n" + strings.Repeat("end\n\n", 4000) + "#x")
	if len(p.Nodes) != 4000 || at != 0 || e != api.OK {
		t.Error(len(p.Nodes), at, e)
	}
}

// someText is a proof that can be written, but need not be one of any world.
func someText(d *rand.Rand) api.Proof {
	p := api.Proof{A: d.IntN(2049), B: d.IntN(2049), Most: d.IntN(2*far+1) - far}
	for range d.IntN(6) {
		n := api.Node{Question: d.IntN(12) - 6}
		if n.Question < 0 {
			n.Question = -1
			for range d.IntN(5) {
				n.Chain = append(n.Chain, api.Step{Claim: d.IntN(400), Back: d.IntN(2) == 0})
			}
		}
		p.Nodes = append(p.Nodes, n)
	}
	return p
}

// P7.6: Parse of Print returns the proof.
func TestParseOfPrint(t *testing.T) {
	d := dice(77)
	for range 3000 {
		p := someText(d)
		text, e := proof.Print(p)
		if e != api.OK {
			t.Fatal(p, e)
		}
		if q, at, e := proof.Parse(text); !sameProofs(p, q) || at != 0 || e != api.OK {
			t.Fatal(p, text, q, at, e)
		}
	}
}

// P1, P7.6: any text is refused, or is one whose proof is printed, if it is not too long, and read as the same.
func FuzzParse(f *testing.F) {
	for _, text := range []string{"", "proof 0 6 -3\nask 0\nend 0+ 2-\nend\n", "\n#\nproof 1 2 -0", "proof 1 2 3\nend 4", "\xff\n", "proof 1 2 3\nask 6\n", "proof 1 2 3\n end 399- "} {
		f.Add(text)
	}
	f.Fuzz(func(t *testing.T, text string) {
		p, at, e := proof.Parse(text)
		if e != api.OK {
			if !isZero(p) || (at != 0) != (e == api.ErrForm) {
				t.Fatal(p, at, e)
			}
			return
		}
		again, e := proof.Print(p)
		if e == api.ErrLong && len(text) > 59000 {
			return
		}
		if q, at, f := proof.Parse(again); e != api.OK || at != 0 || f != api.OK || !sameProofs(p, q) {
			t.Fatal(again, q, at, e, f)
		}
	})
}
