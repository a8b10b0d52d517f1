package machine_test

import (
	"math/rand"
	"slices"
	"strconv"
	"strings"
	"testing"

	"heriot/api"
	"heriot/machine"
	"heriot/place"
	"heriot/plain"
	"heriot/samples"
	"heriot/steps"
	"heriot/store"
)

// made is a program by chance, with its image, and arguments and a fuel for it.
type made struct {
	seed int
	api.Program
	image []byte
	args  []int64
	fuel  int
}

func sample(t *testing.T, seed int, p api.Program) made {
	t.Helper()
	some := rand.New(rand.NewSource(int64(seed)))
	return made{seed, p, imageOf(t, p), []int64{int64(some.Intn(8)), int64(some.Intn(8) - 2)}, some.Intn(1 + some.Intn(300))}
}

// each makes programs in all ways.
func each(t *testing.T, count int, do func(made)) {
	t.Helper()
	for seed := range count {
		do(sample(t, seed, samples.Mutual(seed)))
		do(sample(t, seed, unitsByChance(seed)))
		if p, ok := byTexts(t, seed); ok && seed%2 == 0 {
			do(sample(t, seed, p))
		}
		if t.Failed() {
			t.Fatalf("program %d", seed)
		}
	}
}

// TestRuns: P8.1 (and P3), and P8.5 as far as it speaks of ticks.
func TestRuns(t *testing.T) {
	t.Parallel()
	faults, long := map[int]int{}, 0
	each(t, 5*rounds, func(m made) {
		got, want := ran(t, m.image, m.args, m.fuel), steps.Run(m.Program, m.args, m.fuel)
		if !isSame(got, want) {
			t.Errorf("with %v, fuel %d: %+v, not %+v: %s", m.args, m.fuel, got, want, samples.Write(m.Program))
		}
		fault := got.Result.Fault
		if fault == api.FTouch || fault == api.FStuck || fault != api.FFuel && got.Left != 0 {
			t.Errorf("with %v, fuel %d: %+v", m.args, m.fuel, got)
		}
		if depth := depthOf(t, m.image, m.args, m.fuel); depth < 1 || depth > 1+got.Result.Ticks {
			t.Errorf("with %v, fuel %d: depth %d with %d ticks", m.args, m.fuel, depth, got.Result.Ticks)
		}
		faults[fault]++
		if len(got.Events) > 50 {
			long++
		}
		for _, args := range [][]int64{nil, m.args[:1], {1, 2, 3}} {
			stuck := api.Run{Result: api.Result{Fault: api.FStuck}}
			at, e := machine.At(m.image, args, m.fuel, m.seed%5-1)
			if got := ran(t, m.image, args, m.fuel); !isSame(got, stuck) || !isSame(at, stuck) || e != api.OK || depthOf(t, m.image, args, m.fuel) != 0 {
				t.Errorf("with %v: %+v, %+v", args, got, at)
			}
		}
	})
	if faults[api.FNone] < rounds || faults[api.FExn] < rounds/4 || faults[api.FFuel] < rounds || long < rounds {
		t.Errorf("too few cases: %v, %d are long", faults, long)
	}
}

// TestMeaning: P2, from the texts to the machine.
func TestMeaning(t *testing.T) {
	t.Parallel()
	faults := map[int]int{}
	for seed := range 2 * rounds {
		p, ok := byTexts(t, seed)
		if !ok {
			continue
		}
		m := sample(t, seed, p)
		for _, fuel := range []int{m.fuel, 20 * m.fuel, plenty} {
			got, want := ran(t, m.image, m.args, fuel).Result, plain.Run(unitsOf(t, samples.Texts(seed)...), m.args, fuel)
			if !isSameResult(got, want) {
				t.Fatalf("%d with %v, fuel %d: %+v, not %+v", seed, m.args, fuel, got, want)
			}
			faults[got.Fault]++
		}
	}
	if faults[api.FNone] < rounds || faults[api.FExn] < rounds || faults[api.FFuel] < rounds/4 {
		t.Errorf("too few cases: %v", faults)
	}
}

// TestDocument has the document's own examples.
func TestDocument(t *testing.T) {
	const list = "(unit l (data list (a) (Nil) (Cons a (list a))) (fun upto (n) (if (< n 1) (Nil) (Cons n (upto (- n 1))))) (fun sum (l) (case l ((Nil) 0) ((Cons x r) (+ x (sum r))))))"
	const fill = "(unit m (fun fill (a i) (if (< i (len a)) (seq (put a i i) (fill a (+ i 1))) a)) (fun main (n) (at (fill (array n 0) 0) 3)))"
	for _, c := range []struct {
		texts []string
		args  []int64
		fuel  int
		want  api.Result
		peak  int
	}{
		{[]string{"(unit m (fun main (n) (get 0 (tuple (+ n 1) n))))"}, []int64{4}, 9, api.Result{Answer: 5}, 2},
		{[]string{list, "(unit m (use l) (fun main (n) (sum (upto n))))"}, []int64{3}, 100, api.Result{Answer: 6, Ticks: 8}, 9},
		{[]string{"(unit m (exception no) (fun main (n) (handle (raise no (+ n 1)) (no v (* v 2)))))"}, []int64{20}, 9, api.Result{Answer: 42}, 0},
		{[]string{"(unit m (exception no) (fun main (n) (raise no (+ n 1))))"}, []int64{20}, 9, api.Result{Fault: api.FExn, Exn: "no", Payload: 21}, 0},
		{[]string{"(unit m (fun main () (/ 1 0)))"}, nil, 9, api.Result{Fault: api.FExn, Exn: "Div"}, 0},
		{[]string{"(unit m (fun id (x) x) (fun main () (id (id 7))))"}, nil, 9, api.Result{Answer: 7, Ticks: 2}, 0},
		{[]string{"(unit m (fun id (x) x) (fun main () (id (id 7))))"}, nil, 1, api.Result{Fault: api.FFuel, Ticks: 1}, 0},
		{[]string{"(unit m (fun id (x) x) (fun main () (id (id 7))))"}, nil, -1, api.Result{Fault: api.FFuel}, 0},
		{[]string{"(unit m (fun twice (f) (fn x (call f (call f x)))) (fun main (n) (call (twice (fn x (+ x n))) 1)))"}, []int64{20}, 9, api.Result{Answer: 41, Ticks: 4}, 4},
		{[]string{"(unit m (fun main (n) (let r (ref n) (seq (set r (* (deref r) 2)) (deref r)))))"}, []int64{21}, 9, api.Result{Answer: 42}, 1},
		{[]string{fill}, []int64{5}, 99, api.Result{Answer: 3, Ticks: 11}, 6},
		{[]string{fill}, []int64{3}, 99, api.Result{Fault: api.FExn, Exn: "Index", Payload: 3, Ticks: 7}, 4},
		{[]string{fill}, []int64{4097}, 99, api.Result{Fault: api.FExn, Exn: "Size", Payload: 4097}, 0},
		{[]string{fill}, []int64{-1}, 99, api.Result{Fault: api.FExn, Exn: "Size", Payload: -1}, 0},
		{[]string{"(unit m (fun for (n) (for (+ n 1))) (fun main () (for 0)))"}, nil, plenty, api.Result{Fault: api.FFuel, Ticks: api.MaxFuel}, 0},
	} {
		p := placedOf(t, c.texts...)
		run := ran(t, imageOf(t, p), c.args, c.fuel)
		if isLeft := run.Result.Fault != api.FFuel && run.Left != 0; !isSameResult(run.Result, c.want) || run.Peak != c.peak || isLeft {
			t.Errorf("%v with %v: %+v", c.texts, c.args, run)
		}
		if want := steps.Run(p, c.args, c.fuel); !isSame(run, want) {
			t.Errorf("%v with %v: %+v, not %+v", c.texts, c.args, run, want)
		}
	}
	if image := imageOf(t, placedOf(t, "(unit m (fun main (n) (get 0 (tuple n n))))")); len(image) != 34 {
		t.Errorf("an image of %d bytes", len(image))
	}
}

// TestGreatCells: P8.1 for tuples and closures with more words than the store's cells may have.
func TestGreatCells(t *testing.T) {
	t.Parallel()
	run := func(parts int, own string) {
		great := "(*" + strings.Repeat(" int", parts) + " @0)"
		own = strings.NewReplacer("great", great, "last", strconv.Itoa(parts-1)).Replace(own)
		p := samples.Program("fun main (int int) int [new @0; 2 " + great + " := tuple" + strings.Repeat(" 0", parts-1) + " 1 @0; " + own + "];")
		run := ran(t, imageOf(t, p), []int64{5, 7}, 9)
		if want := steps.Run(p, []int64{5, 7}, 9); !isSame(run, want) || run.Result.Answer != 7 {
			t.Errorf("%d parts: %+v, not %+v", parts, run, want)
		}
	}
	for _, parts := range []int{4095, 4096, 4097, 4098} {
		run(parts, "3 int := get #last 2; end @0; value 3")
		run(parts, "3 (ref great @0) := ref 2 @0; 4 great := deref 3; 5 int := get #0 4; 6 int := get #last 4; 7 int := sub 6 5; 8 int := add 7 5; end @0; value 8")
	}
	run(10000, "3 int := get #last 2; end @0; value 3")
	// A lambda that uses many variables.
	const count = 4100
	text, names := "", ""
	for v := 2; v < count; v++ {
		text += strconv.Itoa(v) + " int := add 0 1;"
		names += " " + strconv.Itoa(v)
	}
	great := "(*" + strings.Repeat(" int", count-2) + " @1)"
	p := samples.Program("fun main (int int) int [new @0; " + text + "8000 (-> int int @0 {}) := fn @0 [bind 8001; new @1; 8002 " + great + " := tuple" + names + " @1; 8003 int := get #4097 8002; end @1; value 8003]; 8004 int := apply 8000 0; end @0; value 8004];")
	got := ran(t, imageOf(t, p), []int64{5, 7}, 9)
	if want := steps.Run(p, []int64{5, 7}, 9); !isSame(got, want) || got.Result.Answer != 12 || got.Peak != count-1+count-2 {
		t.Errorf("a closure: %+v, not %+v", got, want)
	}
}

// TestAt: P8.4: the beginnings of runs.
func TestAt(t *testing.T) {
	t.Parallel()
	looked, changed := 0, 0
	each(t, rounds, func(m made) {
		j, _ := judgeImage(m.image)
		r := judge(j, m.args, m.fuel)
		run := ran(t, m.image, m.args, m.fuel)
		ks := []int{-1, 0, 1, 2, 3, len(run.Events) - 1, len(run.Events), len(run.Events) + 1, plenty}
		for range 5 {
			ks = append(ks, rand.New(rand.NewSource(int64(m.seed))).Intn(len(run.Events)+1))
		}
		for _, k := range ks {
			got, e := machine.At(m.image, m.args, m.fuel, k)
			if want := r.at(k); e != api.OK || !isSame(got, want) {
				t.Errorf("At %d with %v, fuel %d: error %d, %+v, not %+v", k, m.args, m.fuel, e, got, want)
			}
			if got.Result.Ticks > 0 && got.Result.Ticks < run.Result.Ticks {
				changed++
			}
			looked++
		}
	})
	if looked < 10*rounds || changed < rounds/2 {
		t.Errorf("too few cases: %d, in %d the ticks change", looked, changed)
	}
}

// TestBeginnings: a run in which outputs, ticks and events take turns.
func TestBeginnings(t *testing.T) {
	image := samples.Bytes(`HRI [('f 2 3 1 [0] [[(print 1) (field 2 0 0) (print 2) (end 0) (return 2)]])
	('main 0 4 1 [] [[(load 0 #7) (print 0) (new 0) (print 0) (cell 1 0 [0 0]) (call 2 0 [1 0] [(0 1)]) (print 2) (return 2)]])] [] 1`)
	events := []api.Event{{Kind: api.VNew}, {Kind: api.VAlloc, Words: 2, Held: 2}, {Kind: api.VTouch, Held: 2}, {Kind: api.VEnd, Words: 2}}
	whole := api.Run{Result: api.Result{Answer: 7, Outs: []int64{7, 7, 7, 7, 7}, Ticks: 1}, Peak: 2, Events: events}
	outs := []int{0, 1, 2, 3, 4}
	for k := -3; k < 7; k++ {
		got, e := machine.At(image, nil, 5, k)
		want := whole
		if k < len(events) {
			own := max(k, 0)
			want = api.Run{Result: api.Result{Outs: whole.Result.Outs[:outs[own]]}, Events: events[:own]}
			if own >= 3 {
				want.Result.Ticks = 1
			}
			if own >= 2 {
				want.Peak, want.Left = 2, 2
			}
		}
		if e != api.OK || !isSame(got, want) {
			t.Errorf("At %d: error %d, %+v, not %+v", k, e, got, want)
		}
	}
	// Of a run without events, 0 is the whole, and what is below 0 is a beginning.
	none := samples.Bytes("HRI [('main 0 1 0 [] [[(load 0 #7) (print 0) (return 0)]])] [] 0")
	for k, want := range map[int]api.Run{-1: {}, 0: {Result: api.Result{Answer: 7, Outs: []int64{7}}}, 1: {Result: api.Result{Answer: 7, Outs: []int64{7}}}} {
		if got, e := machine.At(none, nil, 5, k); e != api.OK || !isSame(got, want) {
			t.Errorf("At %d: error %d, %+v, not %+v", k, e, got, want)
		}
	}
	if got, e := machine.At(none, []int64{1}, 5, -1); e != api.OK || !isSame(got, api.Run{Result: api.Result{Fault: api.FStuck}}) {
		t.Errorf("At with an argument too many: error %d, %+v", e, got)
	}
}

// TestPages: P9: the events of a run fit a store.
func TestPages(t *testing.T) {
	t.Parallel()
	each(t, 2*rounds, func(m made) {
		run := ran(t, m.image, m.args, m.fuel)
		s, open, most, isBig := store.New(), map[int]bool{}, 0, false
		for _, e := range run.Events {
			switch e.Kind {
			case api.VNew:
				if number := s.Open(); number != e.Region {
					t.Errorf("%+v: region %d", e, number)
				}
				open[e.Region] = true
			case api.VAlloc:
				if _, errno := s.Alloc(e.Region, e.Words); errno != api.OK {
					t.Errorf("%+v: error %d", e, errno)
				}
				isBig = isBig || e.Words > api.PageWords
			case api.VTouch:
				if !open[e.Region] {
					t.Errorf("%+v: not open", e)
				}
			case api.VEnd:
				delete(open, e.Region)
				if errno := s.Close(e.Region); errno != api.OK {
					t.Errorf("%+v: error %d", e, errno)
				}
			}
			most = max(most, s.Pages())
			if s.Words() != e.Held {
				t.Errorf("%+v: the store has %d words", e, s.Words())
			}
		}
		if run.Result.Fault != api.FFuel && (s.Pages() != 0 || !isBig && s.Free() != most) {
			t.Errorf("%d pages are taken, %d wait, and %d were needed at once", s.Pages(), s.Free(), most)
		}
	})
}

// TestApart: P7: units whose regions are found one by one, and whose code is made one by one, are the whole program.
func TestApart(t *testing.T) {
	t.Parallel()
	looked := 0
	for seed := range 2 * rounds {
		p, ok := flatOf(t, samples.Texts(seed)...)
		if !ok {
			continue
		}
		whole, e := place.Place(p)
		if e != api.OK {
			continue
		}
		apart := api.Program{Datas: whole.Datas, Exns: whole.Exns, Main: whole.Main}
		for unit := range 3 {
			own, e := place.PlaceUnit(p, unit, apart.Funs)
			if e != api.OK {
				t.Fatalf("%d: PlaceUnit of unit %d: %d", seed, unit, e)
			}
			apart.Funs = append(apart.Funs, own...)
		}
		if got, want := imageOf(t, apart), imageOf(t, whole); !slices.Equal(got, want) {
			t.Fatalf("%d: %v, not %v", seed, got, want)
		}
		looked++
	}
	if looked < rounds {
		t.Errorf("too few cases: %d", looked)
	}
}

// TestOtherBodies: P8.2: an object does not hang on the bodies of other units, nor on the functions of later ones.
func TestOtherBodies(t *testing.T) {
	t.Parallel()
	looked := 0
	for seed := range 3 * rounds {
		p := unitsByChance(seed)
		if q, ok := byTexts(t, seed); ok && seed%3 == 0 {
			p = q
		}
		last := p.Funs[len(p.Funs)-1].Unit
		for unit := range last + 1 {
			want := compiled(t, p, unit)
			if got := compiled(t, changed(p, func(f *api.Fun) bool { return f.Unit != unit }), unit); !slices.Equal(got, want) {
				t.Fatalf("%d: with other bodies %v, not %v: %s", seed, got, want, samples.Write(p))
			}
			if unit == last {
				continue
			}
			if got := compiled(t, cut(p, unit), unit); !slices.Equal(got, want) {
				t.Fatalf("%d: without later functions %v, not %v: %s", seed, got, want, samples.Write(p))
			}
			looked++
		}
	}
	if looked < rounds {
		t.Errorf("too few cases: %d", looked)
	}
}

// changed is a program in which some functions only raise an exception.
func changed(p api.Program, does func(*api.Fun) bool) api.Program {
	p.Funs = slices.Clone(p.Funs)
	for i := range p.Funs {
		f := &p.Funs[i]
		if !does(f) {
			continue
		}
		number := len(f.Params)
		f.Body = api.Block{Value: number + 1, Steps: []api.Step{{Op: api.OInt, Out: number, Int: 3}, {Op: api.ORaise, Out: number + 1, Type: f.Result, Code: 1, Args: []int{number}}}}
		for _, r := range f.Touch.Regions {
			f.Body.Steps = append(f.Body.Steps, api.Step{Op: api.OEnd, Out: -1, Region: r})
		}
	}
	return p
}

// cut is a program without the functions of the units behind one; main is a new function of the next one.
func cut(p api.Program, unit int) api.Program {
	var funs []api.Fun
	for _, f := range p.Funs {
		if f.Unit <= unit {
			funs = append(funs, f)
		}
	}
	main := api.Fun{Name: "main", Unit: unit + 1, Params: []api.Type{{}}, Body: api.Block{}}
	p.Funs, p.Main = append(funs, main), len(funs)
	return p
}
