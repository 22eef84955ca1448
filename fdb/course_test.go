package fdb_test

import (
	"slices"
	"testing"

	"girder/addr"
	"girder/api"
	"girder/fdb"
)

// plain is the chapter, word by word: a list, in the order of the keys, that is gone through each time.
type plain struct {
	most, live int
	l          []fdb.Entry
}

// at which place is a key? -1: nowhere.
func (p *plain) at(k fdb.Key) int {
	return slices.IndexFunc(p.l, func(e fdb.Entry) bool { return e.Key == k })
}

// set an entry, in the place of one with its key.
func (p *plain) set(e fdb.Entry) {
	p.cut(func(o fdb.Entry) bool { return o.Key == e.Key })
	p.l = append(p.l, e)
	slices.SortFunc(p.l, byKey)
}

// cut out those of which a function says so.
func (p *plain) cut(goes func(fdb.Entry) bool) int {
	was := len(p.l)
	p.l = slices.DeleteFunc(p.l, goes)
	return was - len(p.l)
}

func (p *plain) learn(k fdb.Key, port int) (fdb.Entry, bool) {
	if k.Mac[0]&1 == 1 || port < 1 || port > api.MaxPorts {
		return fdb.Entry{}, false
	}
	var gone fdb.Entry
	full := p.at(k) < 0 && len(p.l) == p.most
	if full {
		gone = p.l[0]
		for _, e := range p.l {
			if e.Age > gone.Age { // of several of one age the first one stays it: the list is in order
				gone = e
			}
		}
		p.cut(func(e fdb.Entry) bool { return e.Key == gone.Key })
	}
	p.set(entry(k, port, 0))
	return gone, full
}

func (p *plain) tick() int {
	for i := range p.l {
		p.l[i].Age++
	}
	return p.cut(func(e fdb.Entry) bool { return e.Age >= p.live })
}

func (p *plain) put(e fdb.Entry) bool {
	if e.Mac[0]&1 == 1 || e.Port < 1 || e.Port > api.MaxPorts || e.Age < 0 || e.Age >= p.live {
		return false
	}
	if p.at(e.Key) < 0 && len(p.l) == p.most {
		return false
	}
	p.set(e)
	return true
}

// course is a row of numbers, always the same one from one beginning.
type course uint32

// below tells the next number of the row, below n.
func (c *course) below(n int) int {
	*c = *c*1664525 + 1013904223
	return int(*c>>8) % n
}

// key of a few VLANs and addresses, so that they come again; some are groups'.
func (c *course) key() fdb.Key {
	m := addr.MAC{0, 0, 0, 0, byte(c.below(3)), byte(c.below(5))}
	if c.below(12) == 0 {
		m[0] = 1
	}
	return fdb.Key{Vid: uint16(c.below(3)), Mac: m}
}

// port, now and then none.
func (c *course) port() int {
	return c.below(api.MaxPorts+3) - 1
}

// step does one thing to both, and tells whether they answer the same.
func (c *course) step(f *fdb.Fdb, p *plain) bool {
	switch c.below(16) {
	case 0, 1, 2:
		return f.Tick() == p.tick()
	case 3:
		port := c.port()
		return f.Flush(port) == p.cut(func(e fdb.Entry) bool { return e.Port == port })
	case 4:
		vid := uint16(c.below(40))
		return f.Drop(vid) == p.cut(func(e fdb.Entry) bool { return e.Vid == vid })
	case 5, 6, 7:
		e := entry(c.key(), c.port(), c.below(p.live+2)-1)
		return f.Put(e) == p.put(e)
	}
	k, port := c.key(), c.port()
	got, ok := f.Learn(k, port)
	want, full := p.learn(k, port)
	return got == want && ok == full
}

// P9.1, P9.2: long rows of calls, each answer held against the chapter's words.
func TestCourse(t *testing.T) {
	for most := 1; most <= 12; most++ {
		for _, live := range []int{1, 2, 3, 7, 30} {
			f, p, c := fdb.New(most, live), &plain{most: most, live: live}, course(most*100+live)
			for i := range 2000 {
				if !c.step(f, p) || !slices.Equal(f.List(), p.l) {
					t.Fatalf("New(%d, %d): behind the %dth step List tells %+v, want %+v", most, live, i, f.List(), p.l)
				}
				k := c.key()
				port, found := f.Find(k)
				at := p.at(k)
				if found != (at >= 0) || found && port != p.l[at].Port || !found && port != 0 {
					t.Fatalf("New(%d, %d): behind the %dth step Find(%v) = %d, %v", most, live, i, k, port, found)
				}
			}
		}
	}
}
