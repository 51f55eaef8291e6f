package kernel_test

import (
	"math"
	"reflect"
	"slices"
	"strconv"
	"testing"

	"sandtable/api"
	"sandtable/canon"
	"sandtable/kernel"
	"sandtable/model"
	"sandtable/sample"
)

const (
	num     = 1 << 40
	latest  = math.MaxInt64
	without = math.MaxInt // a limit, or a stop, that nothing comes to
)

// records are records by three things each: time, process, value.
func records(things ...any) []told {
	var list []told
	for three := range slices.Chunk(things, 3) {
		list = append(list, told{A: kernel.Record{At: int64(three[0].(int)), Proc: three[1].(string), Value: int64(three[2].(int))}})
	}
	return list
}

// ends is a list with an error behind it.
func ends(list []told, e api.Errno) []told {
	return append(list, told{B: e})
}

// proc is a process that sends what comes with an event along each of some links.
func proc(name string, links ...string) api.Proc {
	p := api.Proc{Name: name, Weight: 1}
	for _, l := range links {
		p.Steps = append(p.Steps, api.Step{Kind: api.Send, Name: l, Arg: api.Arg{Kind: api.Value}})
	}
	return p
}

func link(name, from, to string, delay int64) api.Link {
	return api.Link{Name: name, From: from, To: to, Delay: delay, Weight: 1}
}

func event(to string, at, value int64) api.Event {
	return api.Event{To: to, At: at, Value: value}
}

// models are right models of version 3, of all kinds and in no order.
func models() []api.Model {
	all := []api.Model{{Version: 3}, {Version: 3, Procs: []api.Proc{}, Links: []api.Link{}, Events: []api.Event{}}, sample.Model(), crowd(300, 2)}
	for s := range sample.Numbers(300) {
		m := s.Model(3, s.Next(9), s.Next(20), s.Next(12))
		all = append(all, m, s.Gentle(m))
	}
	return all
}

// crowd is a model of a process b, with so many events at time 0, that sends along so many links to a.
func crowd(events, links int) api.Model {
	m := api.Model{Version: 3, Procs: []api.Proc{{Name: "b", Weight: 1, Vars: []api.Var{{Name: "x"}}, Steps: []api.Step{{Kind: api.Add, Name: "x", Arg: api.Arg{N: 1}}}}, {Name: "a", Weight: 1}}}
	for i := range links {
		name := "l" + strconv.Itoa(i)
		m.Links = append(m.Links, link(name, "b", "a", 5))
		m.Procs[0].Steps = append(m.Procs[0].Steps, api.Step{Kind: api.Send, Name: name})
	}
	m.Events = slices.Repeat([]api.Event{event("b", 0, 7)}, events)
	return m
}

// P27.1: all models, step by step, till nothing is left, or something goes wrong, and again then.
func TestSteps(t *testing.T) {
	seen := map[api.Errno]int{}
	for _, m := range models() {
		b := pairUp(t, m)
		last := api.OK
		for n := 0; n < 400 && last == api.OK; n++ {
			_, last = b.step()
			seen[last]++
		}
		if last != api.OK {
			for range 3 {
				if r, e := b.step(); r != (kernel.Record{}) || e != last {
					t.Fatalf("%#v: %v, %d; was %d", m, r, e, last)
				}
			}
		}
	}
	if seen[api.OK] < 10000 || seen[api.ErrNone] < 100 || seen[api.ErrOver] < 30 {
		t.Errorf("%v", seen)
	}
}

// P27.1: calls in many orders: steps, and records gone through up to limits, and stopped at places.
func TestOrdersOfCalls(t *testing.T) {
	seen := map[api.Errno]int{}
	for i, m := range models() {
		b := pairUp(t, m)
		s := sample.Numbers(i)
		for range 40 {
			if s.Next(3) == 0 {
				b.step()
				continue
			}
			limits, stops := []int{-1, 0, 1, 2, 3, 9}, []int{1, 2, 3, 20}
			for _, x := range b.all(limits[s.Next(len(limits))], stops[s.Next(len(stops))]) {
				seen[x.B]++
			}
		}
	}
	for _, e := range []api.Errno{api.OK, api.ErrOver, api.ErrLimit} {
		if seen[e] < 300 {
			t.Errorf("%v", seen)
		}
	}
}

// P27.1: records, written out.
func TestWrittenOut(t *testing.T) {
	two := func(events ...api.Event) api.Model {
		return api.Model{Version: 3, Procs: []api.Proc{proc("b"), proc("a", "l")}, Links: []api.Link{link("l", "a", "b", 5)}, Events: events}
	}
	for i, c := range []struct {
		m    api.Model
		most int
		want []told
	}{
		{api.Model{Version: 3}, 5, nil},
		{two(), 5, nil},
		{two(event("a", 1, 7)), 5, records(1, "a", 7, 6, "b", 7)},
		// The least time first, then the process that is first as it is laid down, then what was put in first.
		{two(event("b", 3, 1), event("b", 2, 2), event("b", num, 4), event("b", 0, 3)), 9, records(0, "b", 3, 2, "b", 2, 3, "b", 1, num, "b", 4)},
		{two(event("b", 1, 1), event("a", 1, 2)), 9, records(1, "a", 2, 1, "b", 1, 6, "b", 2)},
		{two(event("b", 6, 9), event("a", 1, 2)), 9, records(1, "a", 2, 6, "b", 9, 6, "b", 2)},
		{two(event("b", 6, 1), event("a", 1, 2), event("b", 6, -1), event("a", 1, 0)), 9, records(1, "a", 0, 1, "a", 2, 6, "b", -1, 6, "b", 1, 6, "b", 0, 6, "b", 2)},
		// Limits: what is left is told, but only if something is.
		{two(event("a", 1, 7)), 0, ends(nil, api.ErrLimit)},
		{two(event("a", 1, 7)), -1, ends(nil, api.ErrLimit)},
		{two(event("a", 1, 7)), math.MinInt, ends(nil, api.ErrLimit)},
		{two(event("a", 1, 7)), 1, ends(records(1, "a", 7), api.ErrLimit)},
		{two(event("a", 1, 7)), 2, records(1, "a", 7, 6, "b", 7)},
		{two(event("a", 1, 7)), without, records(1, "a", 7, 6, "b", 7)},
		{two(), 0, nil},
		{two(), -1, nil},
	} {
		k, f := kernel.New(c.m)
		if f != (api.Fault{}) {
			t.Fatalf("case %d: %#v", i, f)
		}
		if got := slices.Collect(sample.Pairs(k.All(c.most))); !slices.Equal(got, c.want) {
			t.Errorf("case %d: %v; want %v", i, got, c.want)
		}
	}
}

// P27.1: what is sent is put in by its order, not by its value or its link; where it goes, and when, its link tells.
func TestSent(t *testing.T) {
	a := proc("a", "n", "m", "l", "m")
	a.Vars = []api.Var{{Name: "x", Init: 5}}
	for i := range a.Steps {
		a.Steps[i].Arg = api.Arg{N: int64(10 - i)}
	}
	a.Steps = append(a.Steps, api.Step{Kind: api.Send, Name: "k", Arg: api.Arg{Kind: api.Variable, Name: "x"}}, api.Step{Kind: api.Put, Name: "x"})
	m := api.Model{
		Version: 3,
		Procs:   []api.Proc{proc("c"), a, proc("b")},
		Links:   []api.Link{link("k", "a", "a", num), link("l", "a", "b", 3), link("m", "a", "c", 2), link("n", "a", "b", 3)},
		Events:  []api.Event{event("a", 1, 0)},
	}
	b := pairUp(t, m)
	want := records(1, "a", 0, 3, "c", 9, 3, "c", 7, 4, "b", 10, 4, "b", 8, num+1, "a", 5, num+3, "c", 9, num+3, "c", 7)
	if got := b.all(8, without); !slices.Equal(got, ends(want, api.ErrLimit)) {
		t.Errorf("%v; want %v", got, want)
	}
	if vars, ok := b.k.Vars("a"); !ok || !slices.Equal(vars, []int64{0}) || b.k.Len() != 3 {
		t.Errorf("%v, %v, %d", vars, ok, b.k.Len())
	}
}

// P27.1: what can't be run: layer 15's fault first, with the number of the declaration as it was handed in, then another version.
func TestFaults(t *testing.T) {
	seen := map[api.Errno]int{}
	for version := range 5 {
		m := sample.Model()
		m.Version = version
		for _, once := range append(sample.Turned(m), m) {
			want := model.Check(once)
			if want.E == api.OK && once.Version != 3 {
				want = api.Fault{E: 43}
			}
			k, f := kernel.New(once)
			if f != want || (k == nil) != (want != api.Fault{}) {
				t.Fatalf("%#v: %v, %#v; want %#v", once, k, f, want)
			}
			seen[f.E]++
		}
	}
	for _, e := range []api.Errno{api.OK, api.ErrVersion, api.ErrName, api.ErrTwice, api.ErrWeight, api.ErrForm, api.ErrNone, api.ErrOwner, api.ErrRange, api.ErrDelay} {
		if seen[e] < 3 {
			t.Errorf("%d of %d", seen[e], e)
		}
	}
	wrong := sample.Model()
	wrong.Version, wrong.Procs[0].Name = 2, "_"
	for i, c := range []struct {
		m api.Model
		f api.Fault
	}{
		{api.Model{}, api.Fault{E: api.ErrVersion}},
		{api.Model{Version: 4}, api.Fault{E: api.ErrVersion}},
		{api.Model{Version: 1}, api.Fault{E: api.ErrVersion}},
		{api.Model{Version: 2}, api.Fault{E: api.ErrVersion}},
		{wrong, api.Fault{E: api.ErrName, At: 1}},
		{api.Model{Version: 3, Procs: []api.Proc{proc("b"), proc("a")}, Events: []api.Event{event("a", 0, 0), event("c", 0, 0)}}, api.Fault{E: api.ErrNone, At: 4}},
	} {
		if k, f := kernel.New(c.m); k != nil || f != c.f {
			t.Errorf("case %d: %v, %#v", i, k, f)
		}
	}
}

// P27.1: a number that would go round leaves all as it was, and each call has it again; a limit comes ahead of it.
func TestOver(t *testing.T) {
	m := api.Model{
		Version: 3,
		Procs: []api.Proc{{Name: "a", Weight: 1, Vars: []api.Var{{Name: "y", Init: 1}, {Name: "x", Init: num}}, Steps: []api.Step{
			{Kind: api.Add, Name: "y", Arg: api.Arg{Kind: api.Value}},
			{Kind: api.Send, Name: "l", Arg: api.Arg{Kind: api.Variable, Name: "y"}},
			{Kind: api.Mul, Name: "x", Arg: api.Arg{N: 1 << 20}},
		}}, proc("b")},
		Links:  []api.Link{link("l", "a", "b", 5)},
		Events: []api.Event{event("a", 1, 7), event("a", 2, 7), event("b", 3, 7)},
	}
	b := pairUp(t, m)
	if r, e := b.step(); r != (kernel.Record{At: 1, Proc: "a", Value: 7}) || e != api.OK {
		t.Fatalf("%v, %d", r, e)
	}
	for range 3 {
		if r, e := b.step(); r != (kernel.Record{}) || e != api.ErrOver || b.k.Len() != 3 || b.k.Now() != 1 {
			t.Errorf("%v, %d", r, e)
		}
		if vars, _ := b.k.Vars("a"); !slices.Equal(vars, []int64{1 << 60, 8}) {
			t.Errorf("%v", vars)
		}
		for most, want := range [][]told{{{B: api.ErrLimit}}, {{B: api.ErrOver}}, {{B: api.ErrOver}}} {
			if got := b.all(most, without); !slices.Equal(got, want) {
				t.Errorf("%d: %v", most, got)
			}
		}
	}
	b = pairUp(t, m)
	if got, want := b.all(9, without), ends(records(1, "a", 7), api.ErrOver); !slices.Equal(got, want) {
		t.Errorf("%v; want %v", got, want)
	}
}

// P27.1: times go up to the greatest one, and not round: of a process, b, that sends along the longest link to itself, and, if a is asked for, to a, which comes ahead of it.
func TestTimesDontGoRound(t *testing.T) {
	t.Parallel()
	for _, c := range []struct {
		from, last, now int64
		links           []string
		left            int
	}{
		{num, latest - 2*num + 1, latest - 2*num + 1, []string{"l"}, 1},
		{num - 1, latest - num, latest, []string{"l", "m"}, 1},
	} {
		m := api.Model{
			Version: 3,
			Procs:   []api.Proc{proc("a"), proc("b", c.links...)},
			Links:   []api.Link{link("l", "b", "b", num), link("m", "b", "a", num)},
			Events:  []api.Event{event("b", c.from, 1)},
		}
		k, _ := kernel.New(m)
		last, e := int64(0), api.OK
		for e == api.OK {
			var r kernel.Record
			if r, e = k.Step(); r.Proc == "b" {
				last = r.At
			}
		}
		for range 2 {
			if r, again := k.Step(); e != api.ErrOver || again != e || r != (kernel.Record{}) || last != c.last || k.Now() != c.now || k.Len() != c.left {
				t.Errorf("from %d: %d, %d, the last at %d, now %d, %d left", c.from, e, again, last, k.Now(), k.Len())
			}
		}
		if got := slices.Collect(sample.Pairs(k.All(5))); !slices.Equal(got, ends(nil, api.ErrOver)) {
			t.Errorf("from %d: %v", c.from, got)
		}
	}
}

// P27.1: there are no more than 4096 events behind a step, but where there were as many.
func TestQueue(t *testing.T) {
	for _, c := range []struct{ events, links, steps, left int }{
		{4096, 1, 4096, 4096},
		{4096, 2, 0, 4096},
		{4095, 2, 1, 4096},
		{4090, 3, 3, 4096},
		{4090, 4, 2, 4096},
		{4090, 5, 1, 4094},
		{1, 256 - 1, 1, 255},
		{20, 255, 16, 20 + 16*254},
		{4097, 0, 4097, 0},
		{4097, 1, 4097, 4097},
		{4097, 2, 0, 4097},
		{16384, 0, 16384, 0},
		{16384, 1, 16384, 16384},
		{16384, 2, 0, 16384},
	} {
		k, f := kernel.New(crowd(c.events, c.links))
		if f != (api.Fault{}) {
			t.Fatalf("%v: %#v", c, f)
		}
		n := 0
		for n < c.events {
			if _, e := k.Step(); e != api.OK {
				break
			}
			n++
		}
		if n != c.steps || k.Len() != c.left {
			t.Errorf("%v: %d steps, %d left", c, n, k.Len())
		}
		if c.steps == c.events {
			continue
		}
		for range 2 {
			if r, e := k.Step(); r != (kernel.Record{}) || e != api.ErrQueue || k.Len() != c.left {
				t.Errorf("%v: %v, %d, %d left", c, r, e, k.Len())
			}
		}
		if vars, _ := k.Vars("b"); !slices.Equal(vars, []int64{int64(c.steps)}) {
			t.Errorf("%v: %v", c, vars)
		}
		if got := slices.Collect(sample.Pairs(k.All(5))); !slices.Equal(got, ends(nil, api.ErrQueue)) {
			t.Errorf("%v: %v", c, got)
		}
		if got := slices.Collect(sample.Pairs(k.All(0))); !slices.Equal(got, ends(nil, api.ErrLimit)) {
			t.Errorf("%v: %v", c, got)
		}
	}
}

// P27.1: full queues, step by step, as they must be; a number that would go round comes ahead of a queue that would be too full.
func TestFullQueues(t *testing.T) {
	for _, m := range []api.Model{crowd(4090, 3), crowd(4100, 1), crowd(4100, 2)} {
		b := pairUp(t, m)
		for range 20 {
			b.step()
		}
	}
	m := crowd(4096, 2)
	m.Procs[0].Vars[0].Init = num
	m.Procs[0].Steps = append(m.Procs[0].Steps, slices.Repeat([]api.Step{{Kind: api.Mul, Name: "x", Arg: api.Arg{Kind: api.Variable, Name: "x"}}}, 2)...)
	b := pairUp(t, m)
	if _, e := b.step(); e != api.ErrOver {
		t.Errorf("%d", e)
	}
}

// P27.1: what is gone through steps only as it is asked, and goes on from where things are; its limit counts anew each time.
func TestAllGoesOn(t *testing.T) {
	m := api.Model{Version: 3, Procs: []api.Proc{proc("a", "l")}, Links: []api.Link{link("l", "a", "a", 1)}, Events: []api.Event{event("a", 0, 7)}}
	k, _ := kernel.New(m)
	seq := k.All(3)
	if k.Len() != 1 || k.Now() != 0 {
		t.Errorf("%d, %d: nothing is asked for yet", k.Len(), k.Now())
	}
	for r, e := range seq {
		if r.At != 0 || e != api.OK || k.Now() != 0 {
			t.Errorf("%v, %d", r, e)
		}
		break
	}
	k.Step()
	if got := slices.Collect(sample.Pairs(seq)); !slices.Equal(got, ends(records(2, "a", 7, 3, "a", 7, 4, "a", 7), api.ErrLimit)) {
		t.Errorf("%v", got)
	}
	if got := slices.Collect(sample.Pairs(seq)); !slices.Equal(got, ends(records(5, "a", 7, 6, "a", 7, 7, "a", 7), api.ErrLimit)) {
		t.Errorf("%v", got)
	}
	var got []int64
	for r, e := range seq {
		got = append(got, r.At)
		if e != api.OK {
			break
		}
		if own, e := k.Step(); e != api.OK || own.At != r.At+1 || k.Now() != own.At {
			t.Errorf("on the way: %v, %d", own, e)
		}
	}
	if !slices.Equal(got, []int64{8, 10, 12, 0}) {
		t.Errorf("%v", got)
	}
	for r := range k.All(2) {
		for own := range k.All(1) {
			got = append(got, r.At, own.At)
		}
	}
	if !slices.Equal(got[4:], []int64{14, 15, 14, 0, 16, 17, 16, 0, 0, 18, 0, 0}) {
		t.Errorf("%v", got[4:])
	}
}

// P27.1: nothing is handed out behind a stop, an error or a limit.
func TestNothingBehind(t *testing.T) {
	for _, m := range []api.Model{crowd(3, 1), crowd(4096, 2)} {
		for most := range 9 {
			for stop := 1; stop < 9; stop++ {
				pairUp(t, m).all(most, stop)
			}
		}
	}
}

// P27.2: times never fall, however steps are asked for.
func TestTimesNeverFall(t *testing.T) {
	rose, stayed := 0, 0
	for _, m := range models() {
		k, _ := kernel.New(m)
		last := int64(0)
		for r, e := range k.All(500) {
			if e != api.OK {
				break
			}
			if r.At < last || k.Now() != r.At {
				t.Fatalf("%#v: %d behind %d, now %d", m, r.At, last, k.Now())
			}
			if r.At > last {
				rose++
			} else {
				stayed++
			}
			last = r.At
		}
	}
	if rose < 1000 || stayed < 1000 {
		t.Errorf("%d, %d", rose, stayed)
	}
}

// P27.2: with a limit less, the records are the first ones.
func TestFirstOnes(t *testing.T) {
	limited := 0
	for _, m := range models() {
		k, _ := kernel.New(m)
		whole := slices.Collect(sample.Pairs(k.All(30)))
		for most := range 32 {
			k, _ := kernel.New(m)
			got := slices.Collect(sample.Pairs(k.All(most)))
			want := whole
			if most < 30 && most < len(whole) {
				want = ends(slices.Clone(whole[:most]), api.ErrLimit)
				limited++
			} else if most > 30 && len(whole) == 31 {
				got, want = got[:30], whole[:30]
			}
			if !slices.Equal(got, want) {
				t.Fatalf("%#v, %d: %v; want %v", m, most, got, want)
			}
		}
	}
	if limited < 1000 {
		t.Errorf("%d", limited)
	}
}

// P27.1, P2: in whichever order declarations stand, the same happens.
func TestEveryOrder(t *testing.T) {
	for i, m := range models() {
		s := sample.Numbers(i)
		k, _ := kernel.New(m)
		want := slices.Collect(sample.Pairs(k.All(50)))
		for _, m := range []api.Model{s.Mix(m), canon.Canon(m), m} {
			own, _ := kernel.New(m)
			if got := slices.Collect(sample.Pairs(own.All(50))); !slices.Equal(got, want) {
				t.Fatalf("%#v: %v; want %v", m, got, want)
			}
			for _, p := range m.Procs {
				a, _ := k.Vars(p.Name)
				if b, _ := own.Vars(p.Name); !slices.Equal(a, b) {
					t.Fatalf("%#v: %s: %v; want %v", m, p.Name, b, a)
				}
			}
		}
	}
}

// P2: what is handed in, and the memory behind it, is neither turned nor kept.
func TestModelIsLeft(t *testing.T) {
	for _, m := range append(models(), sample.Turned(sample.Model())...) {
		k, _ := kernel.New(m)
		if k == nil {
			continue
		}
		want := slices.Collect(sample.Pairs(k.All(20)))
		m = sample.Roomy(m)
		was := sample.Behind(m)
		k, _ = kernel.New(m)
		own, _ := kernel.New(m)
		got := slices.Collect(sample.Pairs(own.All(20)))
		if now := sample.Behind(m); !slices.Equal(got, want) || !reflect.DeepEqual(now, was) {
			t.Fatalf("%#v: %v; was %#v", now, got, was)
		}
		sample.Spoil(m)
		if got := slices.Collect(sample.Pairs(k.All(20))); !slices.Equal(got, want) {
			t.Fatalf("%#v: %v; want %v", was, got, want)
		}
	}
}

// P2: variables that are answered are new memory, spare room too; kernels of one model don't know of each other.
func TestApart(t *testing.T) {
	b, other := pairUp(t, sample.Model()), pairUp(t, sample.Model())
	for range 6 {
		for _, name := range []string{"a", "b", "value"} {
			vars, _ := b.k.Vars(name)
			for i := range vars[:cap(vars)] {
				vars[:cap(vars)][i] = 99
			}
		}
		b.same()
		b.step()
	}
	other.same()
	other.all(9, 4)
	b.same()
}

// P27.1: the most processes, links and events that there may be.
func TestGreat(t *testing.T) {
	s := sample.Numbers(5)
	m := s.Gentle(s.Model(3, 4096, 16384, 4096))
	b := pairUp(t, m)
	for range 3 {
		b.all(100, without)
	}
}

// P1: of a kernel that New didn't make nothing is left.
func TestZero(t *testing.T) {
	k := new(kernel.Kernel)
	if r, e := k.Step(); r != (kernel.Record{}) || e != api.ErrNone || k.Len() != 0 || k.Now() != 0 {
		t.Errorf("%v, %d", r, e)
	}
	if vars, ok := k.Vars("a"); vars != nil || ok {
		t.Errorf("%v", vars)
	}
	for r, e := range k.All(1) {
		t.Errorf("%v, %d", r, e)
	}
}

// The chapter's example, and the document's.
func TestExample(t *testing.T) {
	m := api.Model{Version: 3, Procs: []api.Proc{proc("a", "l"), proc("b")}, Links: []api.Link{link("l", "a", "b", 5)}, Events: []api.Event{event("a", 1, 7)}}
	b := pairUp(t, m)
	b.step()
	if r, e := b.step(); r != (kernel.Record{At: 6, Proc: "b", Value: 7}) || e != api.OK {
		t.Errorf("%v, %d", r, e)
	}
	if _, e := b.step(); e != api.ErrNone {
		t.Errorf("%d", e)
	}
}
