package sup_test

import (
	"math"
	"runtime"
	"slices"
	"sync"
	"testing"

	"troupe/api"
	"troupe/sup"
)

// R3

// The children that were handed in are neither turned nor kept.
func TestWhatIsHandedInIsNotKept(t *testing.T) {
	for _, strategy := range strategies() {
		room := append(make([]api.Child, 0, 50), permanent(), timed(-1), temporary(), transient(), timed(3))
		whole := room[:cap(room)]
		for i := len(room); i < len(whole); i++ {
			whole[i] = api.Child{Func: "room", Restart: i, Timeout: -i}
		}
		before := slices.Clone(whole)
		s := strict(strategy, 2, 5, room...)
		s.Children = room
		mayBe(t, s)
		got, err := sup.New(s)
		if err != nil {
			t.Fatal(err)
		}
		if !slices.Equal(whole, before) {
			t.Fatalf("turned: %v", whole)
		}
		spec := s
		spec.Children = slices.Clone(room)
		for i := range whole {
			whole[i] = api.Child{Restart: 7, Timeout: math.MinInt}
		}
		m := newModel(spec)
		both(t, got, m, call{kind: doBegin})
		for i, c := range []call{{doDown, 3, false, 0}, {doTick, 0, false, 9}, {doDown, 4, false, 10}, {doDown, 2, true, 11}, {doDown, 1, true, 12}, {doDown, 0, false, 13}, {doDown, 3, true, 20}, {doStop, 0, false, 21}, {doTick, 0, false, 25}, {doDown, 4, true, 30}, {doDown, 1, true, 31}, {doTick, 0, false, 50}, {doDown, 0, true, 51}} {
			both(t, got, m, c)
			whole[i] = api.Child{Func: "x", Restart: i % 3, Timeout: i}
		}
	}
}

// scrawl turns each act of a list, and each of its room.
func scrawl(acts []api.Act) {
	acts = acts[:cap(acts)]
	for i := range acts {
		acts[i] = api.Act{Kind: 66, Child: 66}
	}
}

// The lists that are told are nobody else's: turning them turns no machine, and no other list.
func TestWhatIsToldIsNobodyElses(t *testing.T) {
	for seed := range int64(300) {
		r := newChance(7000 + seed)
		s, _ := sup.New(r.spec)
		m := newModel(r.spec)
		var told [][]api.Act
		for step := range 60 {
			c := call{kind: doBegin}
			if step > 0 {
				c = r.call(m.up)
			}
			got := plain(s, c)
			if !slices.Equal(got, m.says(c)) {
				t.Fatalf("%v of %v: %s", c, r.spec, text(got))
			}
			scrawl(got)
			told = append(told, got)
			for range 2 {
				up := s.Up()
				if !slices.Equal(up, m.up) {
					t.Fatalf("Up: %d, not %d", up, m.up)
				}
				up = up[:cap(up)]
				for i := range up {
					up[i] = 66
				}
			}
			for _, acts := range told { // nobody wrote into what was told
				for _, a := range acts[:cap(acts)] {
					if a.Kind != 66 {
						t.Fatalf("turned: %v", a)
					}
				}
			}
		}
	}
}

// What was told does not turn with the machine.
func TestWhatWasToldStays(t *testing.T) {
	m := begun(t, spec(all, children(5, permanent())...))
	up := m.Up()
	acts := m.Down(1, false, 1)
	down := m.Up()
	m.up = []int{0, 2, 3, 4}
	for child := 4; child > 0; child-- {
		if child != 1 {
			m.Down(child, false, 2)
		}
	}
	m.Down(0, false, 3)
	m.Stop(4)
	if !slices.Equal(up, count(0, 5)) || !slices.Equal(acts, []api.Act{stop(4)}) || !slices.Equal(down, []int{0, 2, 3, 4}) {
		t.Fatalf("turned: %d, %s, %d", up, text(acts), down)
	}
}

// R4

func TestTwoMachinesHaveNothingInCommon(t *testing.T) {
	s := strict(rest, 1, 10, permanent(), temporary(), permanent())
	first, second := begun(t, s), begun(t, s)
	first.crashes(0, 1, stop(2))
	first.crashes(2, 2, stop(1))
	second.isUp(0, 1, 2)
	second.isIdle()
	second.crashes(2, 3, start(2))
	first.ends(1, 4, start(0), start(2))
	first.crashes(2, 5, stop(0))
	first.crashes(0, 6, exit())
	second.isUp(0, 1, 2)
	second.stops(7, stop(2))
	first.isDone()
	second.crashes(2, 8, stop(1))
	second.isUp(0, 1)
	third := fresh(t, s)
	third.begins(starts(0, 1, 2)...)
	third.crashes(2, 9, start(2))
}

// The same calls get the same answers again, whatever is asked between them and is done with others.
func TestScriptsAnswerTheSameAgain(t *testing.T) {
	for seed := range int64(100) {
		var told [3][]string
		for i := range told {
			r := newChance(seed)
			s, _ := sup.New(r.spec)
			other, _ := sup.New(r.spec)
			s.Begin()
			for range 100 {
				c := r.call(count(0, len(r.spec.Children)))
				if i == 1 {
					plain(other, c)
				}
				told[i] = append(told[i], text(plain(s, c)))
				if i == 2 {
					s.Up()
					s.Done()
					sup.Right(r.spec)
				}
			}
		}
		if !slices.Equal(told[0], told[1]) || !slices.Equal(told[0], told[2]) {
			t.Fatalf("seed %d: not the same again", seed)
		}
	}
}

func TestMachinesAtOnceAgree(t *testing.T) {
	var group sync.WaitGroup
	var told [8][]string
	for i := range told {
		group.Add(1)
		go func() {
			defer group.Done()
			for seed := range int64(50) {
				r := newChance(seed)
				s, _ := sup.New(r.spec)
				s.Begin()
				for range 100 {
					told[i] = append(told[i], text(plain(s, r.call(s.Up()))))
				}
			}
		}()
	}
	group.Wait()
	for i, texts := range told {
		if !slices.Equal(texts, told[0]) {
			t.Errorf("%d: not as the first", i)
		}
	}
}

// inUse is how many bytes are reached.
func inUse() int {
	var m runtime.MemStats
	runtime.GC()
	runtime.ReadMemStats(&m)
	return int(m.HeapAlloc)
}

// Notes that can turn nothing any more are not kept: of ever so many restarts as many as may be within T ticks.
func TestOldNotesAreNotKept(t *testing.T) {
	for _, most := range []int{1, 1000} {
		for _, step := range []int{1, 100} {
			before := inUse()
			s, _ := sup.New(strict(one, most, 1, permanent()))
			s.Begin()
			for i := range 1 << 20 {
				if acts := s.Down(0, false, i*step); len(acts) != 1 || acts[0] != start(0) {
					t.Fatalf("%d: %s", i, text(acts))
				}
			}
			if grown := inUse() - before; grown > 1<<17 {
				t.Errorf("%d bytes for %d notes", grown, most)
			}
			runtime.KeepAlive(s)
		}
	}
}
