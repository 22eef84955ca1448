package image

import (
	"strings"

	"girder/addr"
	"girder/fdb"
	"girder/record"
	"girder/static"
	"girder/vector"
	"girder/vlan"
)

// sizes of numbers in bytes.
const (
	flagsSize   = 1
	smallSize   = 1
	wordSize    = 2
	costSize    = 4
	countSize   = 4
	addressSize = 6
	idSize      = 8
)

// sizes of things in bytes.
const (
	configSize = idSize + 4*smallSize + wordSize
	portSize   = wordSize + smallSize + flagsSize + costSize + smallSize
	vlanSize   = 3 * wordSize
	keySize    = wordSize + addressSize
	staticSize = keySize + wordSize
	learntSize = keySize + smallSize + wordSize
	beatSize   = smallSize
	vectorSize = idSize + costSize + idSize + wordSize
	howSize    = flagsSize + 3*smallSize + vectorSize + 4*smallSize
)

// part of a state, that stands in a section of its own.
type part struct {
	size  func(s record.State) int
	write func(s record.State) string
	read  func(r *reader, s *record.State)
}

// parts of a state, in the order of their kinds. A later one may lean on what an earlier one read.
func parts() []part {
	return []part{
		{
			func(record.State) int { return configSize },
			func(s record.State) string { return putConfig(s.Config) },
			func(r *reader, s *record.State) { getConfig(r, &s.Config) },
		},
		listPart(func(s *record.State) *[]record.Port { return &s.Ports }, portSize, putPort, getPort),
		listPart(func(s *record.State) *[]vlan.Vlan { return &s.Vlans }, vlanSize, putVlan, getVlan),
		listPart(func(s *record.State) *[]static.Entry { return &s.Static }, staticSize, putStatic, getStatic),
		listPart(func(s *record.State) *[]fdb.Entry { return &s.Fdb }, learntSize, putLearnt, getLearnt),
		{
			func(s record.State) int { return beatSize + howSize*len(s.Ports) },
			func(s record.State) string { return put(s.Beat, beatSize) + putAll(s.Ports, putHow) },
			func(r *reader, s *record.State) {
				get(r, &s.Beat, beatSize)
				getAll(r, s.Ports, getHow)
			},
		},
		{
			func(s record.State) int { return countSize * len(s.Counts) },
			func(s record.State) string { return putAll(s.Counts[:], putCount) },
			func(r *reader, s *record.State) { getAll(r, s.Counts[:], getCount) },
		},
	}
}

// listPart: a list of a state, whose things have so many bytes each.
func listPart[E any](of func(s *record.State) *[]E, size int, putOne func(e E) string, getOne func(r *reader, e *E)) part {
	return part{
		func(s record.State) int { return size * len(*of(&s)) },
		func(s record.State) string { return putAll(*of(&s), putOne) },
		func(r *reader, s *record.State) {
			*of(s) = make([]E, r.Left()/size)
			getAll(r, *of(s), getOne)
		},
	}
}

// putAll things of a list, one behind the other.
func putAll[E any](l []E, one func(e E) string) string {
	var b strings.Builder
	for _, e := range l {
		b.WriteString(one(e))
	}
	return b.String()
}

// getAll things of a list that is as long as it is to be.
func getAll[E any](r *reader, l []E, one func(r *reader, e *E)) {
	for i := range l {
		one(r, &l[i])
	}
}

func putConfig(c record.Config) string {
	return put(c.ID, idSize) + put(c.MaxAge, smallSize) + put(c.Hello, smallSize) + put(c.Delay, smallSize) +
		put(c.Room, smallSize) + put(c.Live, wordSize)
}

func getConfig(r *reader, c *record.Config) {
	get(r, &c.ID, idSize)
	get(r, &c.MaxAge, smallSize)
	get(r, &c.Hello, smallSize)
	get(r, &c.Delay, smallSize)
	get(r, &c.Room, smallSize)
	get(r, &c.Live, wordSize)
}

// putPort: what is set of a port, and whether its link is up.
func putPort(p record.Port) string {
	return put(p.Pvid, wordSize) + put(p.Accept, smallSize) + flags(p.Filter, p.Edge, p.Admin, p.Up) +
		put(p.Cost, costSize) + put(p.Priority, smallSize)
}

func getPort(r *reader, p *record.Port) {
	get(r, &p.Pvid, wordSize)
	get(r, &p.Accept, smallSize)
	r.flags(&p.Filter, &p.Edge, &p.Admin, &p.Up)
	get(r, &p.Cost, costSize)
	get(r, &p.Priority, smallSize)
}

func putVlan(v vlan.Vlan) string {
	return put(v.Vid, wordSize) + put(v.Members, wordSize) + put(v.Untagged, wordSize)
}

func getVlan(r *reader, v *vlan.Vlan) {
	get(r, &v.Vid, wordSize)
	get(r, &v.Members, wordSize)
	get(r, &v.Untagged, wordSize)
}

func putKey(k fdb.Key) string {
	return put(k.Vid, wordSize) + put(k.Mac.Int(), addressSize)
}

func getKey(r *reader, k *fdb.Key) {
	var mac uint64
	get(r, &k.Vid, wordSize)
	get(r, &mac, addressSize)
	k.Mac = addr.FromInt(mac)
}

func putStatic(e static.Entry) string {
	return putKey(e.Key) + put(e.Ports, wordSize)
}

func getStatic(r *reader, e *static.Entry) {
	getKey(r, &e.Key)
	get(r, &e.Ports, wordSize)
}

func putLearnt(e fdb.Entry) string {
	return putKey(e.Key) + put(e.Port, smallSize) + put(e.Age, wordSize)
}

func getLearnt(r *reader, e *fdb.Entry) {
	getKey(r, &e.Key)
	get(r, &e.Port, smallSize)
	get(r, &e.Age, wordSize)
}

// putHow: how a port is, but for its link, which stands with its settings.
func putHow(p record.Port) string {
	return flags(p.Plain, p.Agreed) + put(p.Role, smallSize) + put(p.State, smallSize) + put(p.Info, smallSize) +
		putVector(p.Vector) +
		put(p.Age, smallSize) + put(p.Life, smallSize) + put(p.Wait, smallSize) + put(p.Change, smallSize)
}

func getHow(r *reader, p *record.Port) {
	r.flags(&p.Plain, &p.Agreed)
	get(r, &p.Role, smallSize)
	get(r, &p.State, smallSize)
	get(r, &p.Info, smallSize)
	getVector(r, &p.Vector)
	get(r, &p.Age, smallSize)
	get(r, &p.Life, smallSize)
	get(r, &p.Wait, smallSize)
	get(r, &p.Change, smallSize)
}

func putVector(v vector.Vector) string {
	return put(v.Root, idSize) + put(v.Cost, costSize) + put(v.Bridge, idSize) + put(v.Port, wordSize)
}

func getVector(r *reader, v *vector.Vector) {
	get(r, &v.Root, idSize)
	get(r, &v.Cost, costSize)
	get(r, &v.Bridge, idSize)
	get(r, &v.Port, wordSize)
}

func putCount(n uint32) string {
	return put(n, countSize)
}

func getCount(r *reader, n *uint32) {
	get(r, n, countSize)
}
