package munch

import (
	"math/rand"
	"slices"
	"testing"

	"munch/api"
)

// manyMachines are sound ones and others.
func manyMachines() []api.Machine {
	all := sampleMachines()
	for _, turns := range []map[string]func(m *api.Machine){brokenMachines(), soundMachines()} {
		for _, turn := range turns {
			m := machineOfABB()
			turn(&m)
			all = append(all, m)
		}
	}
	return all
}

func TestP2PackWritesIntoNothing(t *testing.T) {
	for _, sample := range manyMachines() {
		m, room := machineInOneRoom(clonedMachine(sample))
		before := slices.Clone(room)
		x, e := Pack(m)
		if !slices.Equal(room, before) {
			t.Fatalf("Pack wrote into what it was handed: %.300v, before %.300v", room, before)
		}
		want, wantError := Pack(sample)
		if e != wantError || !sameTables(x, want) {
			t.Errorf("Pack of lists with spare room: %.300v, %d, want %.300v, %d", x, e, want, wantError)
		}
	}
}

func TestP2PackKeepsNothing(t *testing.T) {
	for _, sample := range sampleMachines() {
		m, room := machineInOneRoom(clonedMachine(sample))
		x := packed(t, m)
		want := cloned(x)
		for i := range room {
			room[i] = 55
		}
		if !sameTables(x, want) {
			t.Error("what Pack answered, behind the caller's writing into the machine")
		}
		// And the other way about: what comes out is no room of what went in.
		for _, l := range listsOf(&x) {
			fill(l, 66)
		}
		for _, n := range room {
			if n != 55 {
				t.Fatal("a list that comes out of Pack shares room with one that went in")
			}
		}
		if again := packed(t, sample); !sameTables(again, want) {
			t.Error("Pack behind the caller's writing into a machine")
		}
	}
}

func TestP2PackedTablesAreFresh(t *testing.T) {
	for _, m := range sampleMachines() {
		first, second := packed(t, m), packed(t, m)
		want := cloned(first)
		for i, l := range listsOf(&second) {
			fill(l, 1000+i)
		}
		third := packed(t, m)
		if !sameTables(first, want) || !sameTables(third, want) {
			t.Error("tables behind the caller's writing into others")
		}
		for i, l := range listsOf(&third) {
			fill(l, 2000+i)
		}
		for i, l := range listsOf(&first) {
			fill(l, 3000+i)
		}
		for k, x := range []api.Tables{third, second, first} {
			for i, l := range listsOf(&x) {
				for _, n := range (*l)[:cap(*l)] {
					if n != []int{2000, 1000, 3000}[k]+i {
						t.Fatal("two lists that come out of Pack share room")
					}
				}
			}
		}
		if !sameTables(packed(t, m), want) {
			t.Error("Pack behind the caller's writing into what it answered")
		}
	}
}

func TestP2GenerateWritesIntoNothing(t *testing.T) {
	for _, patterns := range patternLists() {
		room := append(slices.Clone(patterns), "spare", "room", "(")
		before := slices.Clone(room)
		file, e := Generate(room[:len(patterns)])
		if !slices.Equal(room, before) {
			t.Errorf("Generate wrote into what it was handed: %q, before %q", room, before)
		}
		want, wantError := Generate(patterns)
		if file != want || e != wantError {
			t.Errorf("Generate(%q) with spare room: %d bytes, %d, want %d, %d", patterns, len(file), e, len(want), wantError)
		}
		for i := range room {
			room[i] = "zz*"
		}
		if again, e := Generate(patterns); e != wantError || again != want || file != want {
			t.Errorf("Generate(%q) behind the caller's writing into its list: %d bytes, %d", patterns, len(again), e)
		}
	}
}

// TestP2EachCallHangsOnItsArgumentsAlone lets the calls follow one another in any order, and writes into all that comes out.
func TestP2EachCallHangsOnItsArgumentsAlone(t *testing.T) {
	r := rand.New(rand.NewSource(23))
	lists := patternLists()
	var files []string
	var machines []api.Machine
	var tables []api.Tables
	var errors []api.Errno
	for _, patterns := range lists {
		file, e := Generate(patterns)
		m, _ := Build(patterns)
		x, _ := Pack(m)
		files, errors, machines, tables = append(files, file), append(errors, e), append(machines, clonedMachine(m)), append(tables, cloned(x))
	}
	for range 3000 {
		i := r.Intn(len(lists))
		switch r.Intn(4) {
		case 0:
			if file, e := Generate(lists[i]); e != errors[i] || file != files[i] {
				t.Fatalf("Generate(%q) = %x, %d, want %x, %d", lists[i], file, e, files[i], errors[i])
			}
		case 1:
			x, e := Pack(machines[i])
			if (e == api.OK) != (errors[i] == api.OK) || !sameTables(x, tables[i]) {
				t.Fatalf("Pack(%v) = %v, %d, want %v", machines[i], x, e, tables[i])
			}
			for _, l := range listsOf(&x) {
				fill(l, r.Intn(300))
			}
		case 2:
			m, e := Build(lists[i])
			if e != errors[i] || !sameMachine(m, machines[i]) {
				t.Fatalf("Build(%q) = %v, %d, want %v, %d", lists[i], m, e, machines[i], errors[i])
			}
			x, _ := Pack(m)
			for _, l := range listsOfMachine(&m) {
				fill(l, r.Intn(300))
			}
			if !sameTables(x, tables[i]) {
				t.Fatalf("Pack of %q behind the caller's writing into the machine: %v, want %v", lists[i], x, tables[i])
			}
		case 3:
			if errors[i] == api.OK {
				x := loaded(t, files[i]).Tables()
				if !sameTables(x, tables[i]) {
					t.Fatalf("Tables of the file of %q: %v, want %v", lists[i], x, tables[i])
				}
				for _, l := range listsOf(&x) {
					fill(l, r.Intn(300))
				}
			}
			Pack(api.Machine{Rules: i})
			Check(lists[i])
		}
	}
}

// TestP1AnyMachines hands in lists of any length and any numbers.
func TestP1AnyMachines(t *testing.T) {
	r := rand.New(rand.NewSource(13))
	for range 10000 {
		m := randomMachine(r, 1+r.Intn(8), 1+r.Intn(5))
		for range 20 {
			turnedMachine(r, &m)
		}
		for _, l := range listsOfMachine(&m) {
			if r.Intn(6) == 0 {
				*l = (*l)[:r.Intn(len(*l)+1)]
			}
		}
		if soundMachine(m) {
			rowsStay(t, m)
		} else {
			notPacked(t, "any machine", m)
		}
	}
	for range 1000 {
		var m api.Machine
		m.Rules = wildMachineNumber(r, &m)
		for i, l := range listsOfMachine(&m) {
			for range []int{256, 3, 12}[i] + r.Intn(3) - 1 {
				*l = append(*l, wildMachineNumber(r, &m)*r.Intn(2))
			}
		}
		if !soundMachine(m) {
			notPacked(t, "any numbers", m)
		}
	}
}

func TestP1AnyPatternsGenerate(t *testing.T) {
	r := rand.New(rand.NewSource(14))
	seen := map[api.Errno]int{}
	for range 20000 {
		patterns := anyPatterns(r)
		_, want := Build(patterns)
		seen[want]++
		if want != api.OK {
			notGenerated(t, want, patterns...)
			continue
		}
		loaded(t, generated(t, patterns...))
	}
	if seen[api.OK] < 500 || seen[api.ErrForm] < 500 {
		t.Errorf("the errors %v", seen)
	}
}

// TestP1PackEnds takes machines that ask for much work: holes in which no row fits.
func TestP1PackEnds(t *testing.T) {
	comb := emptyMachine(96, 256)
	for s := range 96 {
		for c := range 256 {
			if s < 48 && c%(s+2) == 0 || s >= 48 && (c+s)%3 > 0 {
				comb.Next[s*256+c] = (s + c) % 96
			}
		}
	}
	late := emptyMachine(96, 256)
	for s := range 96 {
		for c := range 256 {
			if c == 255 || s%2 == 1 && c > 0 {
				late.Next[s*256+c] = (s + c) % 96
			}
		}
	}
	for _, m := range []api.Machine{comb, late} {
		packedByWords(t, m)
	}
}
