package reunion_test

import (
	"maps"
	"math/rand"
	"slices"
	"strconv"
	"testing"

	"reunion/api"
	"reunion/reunion"
)

// events is a set of all that was done with one path: P9's plain words. Sets
// are never changed, so that they may be shared.
type event struct{ replica, number int }

type events map[event]bool

func (s events) with(other events) events {
	all := maps.Clone(s)
	maps.Copy(all, other)
	return all
}

func (s events) within(other events) bool {
	for e := range s {
		if !other[e] {
			return false
		}
	}
	return true
}

// version is a file with all events that made it.
type version struct {
	text   string
	birth  event
	events events
}

// heard is what a replica knows of a path: as events, by which it decides,
// and as a list of numbers, by which records are counted.
type heard struct {
	events  events
	numbers [6]int
}

type place struct {
	count int
	files map[string]version
	heard map[string]heard
}

func (p place) clone() place {
	return place{p.count, maps.Clone(p.files), maps.Clone(p.heard)}
}

// sets is a net told by events. The path never, which no call names, stands
// for all paths of which nothing is written.
type sets struct {
	paths  []string
	places []place
}

const never = "never"

func newSets(n int, paths []string) *sets {
	s := &sets{paths: append(slices.Clone(paths), never)}
	for range n {
		p := place{files: map[string]version{}, heard: map[string]heard{}}
		for _, path := range s.paths {
			p.heard[path] = heard{events: events{}}
		}
		s.places = append(s.places, p)
	}
	return s
}

// next counts an event in a replica, which knows it.
func (s *sets) next(r int, path string) (event, events) {
	p := &s.places[r]
	p.count++
	now := event{r, p.count}
	for _, each := range s.paths {
		h := p.heard[each]
		h.numbers[r] = p.count
		if each == path {
			h.events = h.events.with(events{now: true})
		}
		p.heard[each] = h
	}
	return now, events{now: true}
}

func (s *sets) write(r int, path string, text string) api.Errno {
	old, there := s.places[r].files[path]
	if !there && len(s.places[r].files) == 20 {
		return api.ErrFull
	}
	now, alone := s.next(r, path)
	if there {
		s.places[r].files[path] = version{text, old.birth, old.events.with(alone)}
	} else {
		s.places[r].files[path] = version{text, now, alone}
	}
	return api.OK
}

func (s *sets) remove(r int, path string) api.Errno {
	if _, there := s.places[r].files[path]; !there {
		return api.ErrNone
	}
	s.next(r, path)
	delete(s.places[r].files, path)
	return api.OK
}

// what is what a pull does, and whether FROM's knowledge comes with it.
func (s *sets) what(to, from int, path string) (int, bool) {
	mine, mineThere := s.places[to].files[path]
	yours, yoursThere := s.places[from].files[path]
	iKnow, youKnow := s.places[to].heard[path].events, s.places[from].heard[path].events
	what := api.Nothing
	switch {
	case !mineThere && !yoursThere:
	case mineThere && yoursThere && mine.birth == yours.birth && maps.Equal(mine.events, yours.events):
	case mineThere && yoursThere && yours.events.within(iKnow) && !mine.events.within(youKnow):
	case mineThere && yoursThere && !yours.events.within(iKnow) && mine.events.within(youKnow):
		what = api.Copied
	case mineThere && yoursThere:
		what = api.Conflict
	case yoursThere && yours.events.within(iKnow):
	case yoursThere && !iKnow[yours.birth]:
		what = api.Copied
	case yoursThere:
		what = api.Conflict
	case !youKnow[mine.birth]:
		return api.Nothing, false
	case mine.events.within(youKnow):
		what = api.Removed
	default:
		what = api.Conflict
	}
	return what, what != api.Conflict
}

func (s *sets) hear(to, from int, path string) {
	mine, yours := s.places[to].heard[path], s.places[from].heard[path]
	mine.events = mine.events.with(yours.events)
	for i := range mine.numbers {
		mine.numbers[i] = max(mine.numbers[i], yours.numbers[i])
	}
	s.places[to].heard[path] = mine
}

func (s *sets) pullPath(to, from int, path string) (int, api.Errno) {
	what, hears := s.what(to, from, path)
	_, there := s.places[to].files[path]
	if what == api.Copied && !there && len(s.places[to].files) == 20 {
		return 0, api.ErrFull
	}
	s.take(to, from, path, what, hears)
	return what, api.OK
}

func (s *sets) take(to, from int, path string, what int, hears bool) {
	switch what {
	case api.Copied:
		s.places[to].files[path] = s.places[from].files[path]
	case api.Removed:
		delete(s.places[to].files, path)
	}
	if hears {
		s.hear(to, from, path)
	}
}

func (s *sets) pull(to, from int) ([]api.Change, api.Errno) {
	was := s.places[to].clone()
	var changes []api.Change
	for _, path := range s.paths {
		what, hears := s.what(to, from, path)
		s.take(to, from, path, what, hears)
		if what != api.Nothing {
			changes = append(changes, api.Change{Replica: to, Path: path, What: what})
		}
	}
	if len(s.places[to].files) > 20 {
		s.places[to] = was
		return nil, api.ErrFull
	}
	return changes, api.OK
}

func (s *sets) round(pairs []api.Pair) ([]api.Change, api.Errno) {
	was := slices.Clone(s.places)
	for i := range was {
		was[i] = was[i].clone()
	}
	var changes []api.Change
	for _, pair := range pairs {
		l, e := s.pull(pair.To, pair.From)
		if e != api.OK {
			s.places = was
			return nil, e
		}
		changes = append(changes, l...)
	}
	return changes, api.OK
}

func (s *sets) resolve(to, from int, path string, theirs bool) api.Errno {
	if what, _ := s.what(to, from, path); what != api.Conflict {
		return api.ErrNone
	}
	mine, mineThere := s.places[to].files[path]
	yours, yoursThere := s.places[from].files[path]
	chosen, there := mine, mineThere
	if theirs {
		chosen, there = yours, yoursThere
	}
	if there && !mineThere && len(s.places[to].files) == 20 {
		return api.ErrFull
	}
	now, alone := s.next(to, path)
	s.hear(to, from, path)
	if there {
		s.places[to].files[path] = version{chosen.text, now, alone.with(mine.events).with(yours.events)}
	} else {
		delete(s.places[to].files, path)
	}
	return api.OK
}

func (s *sets) compare(t *testing.T, net *reunion.Net) {
	t.Helper()
	for r, p := range s.places {
		records := 0
		for _, path := range s.paths {
			_, there := p.files[path]
			if there || p.heard[path].numbers != p.heard[never].numbers {
				records++
			}
		}
		for path, v := range p.files {
			wantRead(t, net, r, path, v.text)
		}
		wantList(t, net, r, slices.Sorted(maps.Keys(p.files))...)
		wantLook(t, net, r, api.State{Count: p.count, Files: len(p.files), Records: records})
	}
}

// somePairs is pairs of replicas that are apart.
func somePairs(random *rand.Rand, n int) []api.Pair {
	order := random.Perm(n)
	var pairs []api.Pair
	for range random.Intn(n/2 + 1) {
		pairs = append(pairs, api.Pair{To: order[0], From: order[1]})
		order = order[2:]
	}
	return pairs
}

// step does one thing with the net and with its sets, and wants the same
// answer of both; it tells the answer.
func step(t *testing.T, random *rand.Rand, net *reunion.Net, s *sets) (api.Errno, []api.Change) {
	t.Helper()
	n := len(s.places)
	path := s.paths[random.Intn(len(s.paths)-1)]
	to := random.Intn(n)
	from := (to + 1 + random.Intn(n-1)) % n
	var got, want api.Errno
	var gotL, wantL []api.Change
	switch random.Intn(10) {
	case 0, 1, 2:
		text := strconv.Itoa(random.Intn(1000))
		got, want = net.Write(to, path, text), s.write(to, path, text)
	case 3:
		got, want = net.Remove(to, path), s.remove(to, path)
	case 4, 5:
		var gotWhat, wantWhat int
		gotWhat, got = net.PullPath(to, from, path)
		wantWhat, want = s.pullPath(to, from, path)
		gotL, wantL = []api.Change{{What: gotWhat}}, []api.Change{{What: wantWhat}}
	case 6:
		gotL, got = net.Pull(to, from)
		wantL, want = s.pull(to, from)
	case 7:
		pairs := somePairs(random, n)
		gotL, got = net.Round(pairs)
		wantL, want = s.round(pairs)
	default:
		theirs := random.Intn(2) == 0
		got, want = net.Resolve(to, from, path, theirs), s.resolve(to, from, path, theirs)
	}
	if got != want || !slices.Equal(gotL, wantL) {
		t.Fatalf("P9: answer %d, %v, want %d, %v", got, gotL, want, wantL)
	}
	return got, gotL
}

func somePaths(n int) []string {
	var paths []string
	for i := range n {
		paths = append(paths, string(rune('a'+i)))
	}
	return paths
}

func TestPullsDoAsWithAllEvents(t *testing.T) {
	random := rand.New(rand.NewSource(5))
	var seen [4]int
	full := 0
	for _, c := range []struct{ nets, replicas, paths, steps int }{
		{300, 2, 1, 60}, {300, 3, 2, 80}, {200, 4, 2, 100}, {60, 6, 3, 300}, {10, 3, 26, 800}, {10, 4, 23, 800},
	} {
		for range c.nets {
			net, s := begun(t, c.replicas), newSets(c.replicas, somePaths(c.paths))
			for range c.steps {
				e, changes := step(t, random, net, s)
				for _, change := range changes {
					seen[change.What]++
				}
				if e == api.ErrFull {
					full++
				}
				s.compare(t, net)
				if t.Failed() {
					t.FailNow()
				}
			}
		}
	}
	if slices.Min(seen[:]) < 500 || full < 100 {
		t.Errorf("P9: seen %v of each, and %d times full: too few to tell", seen, full)
	}
}

// settle lets each replica pull from each other one, until nothing is changed
// and no conflict told; conflicts are resolved. It tells whether that came.
func settle(random *rand.Rand, net *reunion.Net, n int) bool {
	for range 20 {
		told := 0
		for to := range n {
			for from := range n {
				l, _ := net.Pull(to, from)
				told += len(l)
				for _, c := range conflicts(l) {
					net.Resolve(to, from, c.Path, random.Intn(2) == 0)
				}
			}
		}
		if told == 0 {
			return true
		}
	}
	return false
}

func conflicts(l []api.Change) []api.Change {
	return slices.DeleteFunc(slices.Clone(l), func(c api.Change) bool { return c.What != api.Conflict })
}

func TestAllMeet(t *testing.T) {
	random := rand.New(rand.NewSource(6))
	met, files := 0, 0
	for range 500 {
		n := 2 + random.Intn(5)
		net, s := begun(t, n), newSets(n, somePaths(3))
		for range random.Intn(60) {
			step(t, random, net, s)
		}
		if !settle(random, net, n) {
			continue
		}
		met++
		first, _ := net.List(0)
		files += len(first)
		for r := 1; r < n; r++ {
			wantList(t, net, r, first...)
			for _, path := range first {
				text, _ := net.Read(0, path)
				wantRead(t, net, r, path, text)
			}
		}
	}
	if met < 400 || files < 400 {
		t.Errorf("P9: of 500 nets %d have met, with %d files: too few to tell", met, files)
	}
}
