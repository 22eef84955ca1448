package classify_test

import (
	"math"
	"testing"

	"girder/addr"
	"girder/api"
	"girder/classify"
	"girder/frame"
	"girder/ports"
	"girder/vlan"
)

// table of some VLANs.
func table(t *testing.T, l ...vlan.Vlan) *vlan.Table {
	t.Helper()
	x := vlan.New()
	for _, v := range l {
		if err := x.Set(v); err != api.OK {
			t.Fatalf("Set(%+v) = %d", v, err)
		}
	}
	return x
}

// of a number, with members.
func of(vid uint16, members ...int) vlan.Vlan {
	return vlan.Vlan{Vid: vid, Members: ports.Of(members...)}
}

// tagged frame of a VLAN.
func tagged(vid uint16) frame.Frame {
	return frame.Frame{Tagged: true, Vid: vid, Type: 0x800}
}

// comes at a port, and is answered that.
func comes(t *testing.T, p classify.Port, number int, f frame.Frame, x *vlan.Table, vid uint16, what int) {
	t.Helper()
	if gotVid, got := classify.Ingress(p, number, f, x); gotVid != vid || got != what {
		t.Errorf("Ingress(%+v, %d, %+v) = %d, %d, want %d, %d", p, number, f, gotVid, got, vid, what)
	}
}

// wrongAccepts are none of the three.
func wrongAccepts() []int {
	return []int{-1, 3, 4, -2, 256, 257, 1 << 32, 1<<32 + 1, math.MinInt, math.MaxInt}
}

// P11.1: the numbers that the chapter names.
func TestNumbers(t *testing.T) {
	if classify.All != 0 || classify.Tagged != 1 || classify.Untagged != 2 {
		t.Error("All, Tagged, Untagged are", classify.All, classify.Tagged, classify.Untagged)
	}
	if classify.Taken != 0 || classify.Refused != 1 || classify.NoVlan != 2 || classify.NoMember != 3 {
		t.Error("Taken, Refused, NoVlan, NoMember are", classify.Taken, classify.Refused, classify.NoVlan, classify.NoMember)
	}
}

// P11.1: every Pvid, each with every Accept, and with wrong ones.
func TestGood(t *testing.T) {
	for n := range 1 << 16 {
		for _, filter := range []bool{false, true} {
			for _, accept := range []int{classify.All, classify.Tagged, classify.Untagged} {
				p := classify.Port{Pvid: uint16(n), Accept: accept, Filter: filter}
				if got := p.Good(); got != (n >= 1 && n <= 4094) {
					t.Errorf("%+v: Good tells %v", p, got)
				}
			}
			for _, accept := range wrongAccepts() {
				p := classify.Port{Pvid: uint16(n), Accept: accept, Filter: filter}
				if p.Good() {
					t.Errorf("%+v is Good", p)
				}
			}
		}
	}
}

// P11.1: its own VLAN, else Pvid; a tag of the VLAN 0 (the example), and a Vid without a tag, are none of its own.
func TestIngressVlan(t *testing.T) {
	x := table(t, of(1, 1), of(5, 1), of(6, 1), of(4094, 1))
	for _, pvid := range []uint16{1, 5, 4094} {
		p := classify.Port{Pvid: pvid}
		for _, f := range []frame.Frame{
			{},
			tagged(0),
			{Tagged: true, Pcp: 7, Dei: true},
			{Vid: 6},
			{Vid: 9},
			{Dst: addr.FromInt(3), Src: addr.FromInt(4), Type: 0x8100, Data: "abc"},
			{Dst: addr.FromInt(0x0180C2000000)},
		} {
			comes(t, p, 1, f, x, pvid, classify.Taken)
		}
		for _, vid := range []uint16{1, 5, 6, 4094} {
			comes(t, p, 1, tagged(vid), x, vid, classify.Taken)
			comes(t, p, 1, frame.Frame{Tagged: true, Pcp: 8, Dei: true, Vid: vid, Type: 0x8100}, x, vid, classify.Taken)
		}
	}
}

// P11.1: Pvid counts for nothing, where a frame has a VLAN of its own.
func TestIngressWithoutPvid(t *testing.T) {
	x := table(t, of(5, 1))
	for _, pvid := range []uint16{0, 4, 4095, 65535} {
		p := classify.Port{Pvid: pvid}
		comes(t, p, 1, tagged(5), x, 5, classify.Taken)
		comes(t, p, 1, tagged(0), x, 0, classify.NoVlan)
		comes(t, p, 1, frame.Frame{}, x, 0, classify.NoVlan)
		comes(t, p, 1, frame.Frame{Vid: 5}, x, 0, classify.NoVlan)
	}
}

// P11.1: each Accept with each kind of frame.
func TestIngressAccept(t *testing.T) {
	x := table(t, of(5, 1), of(6, 1))
	own := []frame.Frame{tagged(6), {Tagged: true, Pcp: 3, Dei: true, Vid: 6}}
	none := []frame.Frame{{}, tagged(0), {Tagged: true, Pcp: 3, Dei: true}, {Vid: 6}}
	for _, filter := range []bool{false, true} {
		for _, c := range []struct {
			accept            int
			takesOwn, takesNo bool
		}{
			{classify.All, true, true},
			{classify.Tagged, true, false},
			{classify.Untagged, false, true},
		} {
			p := classify.Port{Pvid: 5, Accept: c.accept, Filter: filter}
			for _, f := range own {
				refusedUnless(t, p, f, x, 6, c.takesOwn)
			}
			for _, f := range none {
				refusedUnless(t, p, f, x, 5, c.takesNo)
			}
		}
	}
}

// refusedUnless it is taken, as one of that VLAN.
func refusedUnless(t *testing.T, p classify.Port, f frame.Frame, x *vlan.Table, vid uint16, taken bool) {
	t.Helper()
	if taken {
		comes(t, p, 1, f, x, vid, classify.Taken)
	} else {
		comes(t, p, 1, f, x, 0, classify.Refused)
	}
}

// P11.1: an Accept that is neither Tagged nor Untagged refuses nothing.
func TestIngressOfWrongAccept(t *testing.T) {
	x := table(t, of(5, 1), of(6, 1))
	for _, accept := range wrongAccepts() {
		p := classify.Port{Pvid: 5, Accept: accept, Filter: true}
		comes(t, p, 1, tagged(6), x, 6, classify.Taken)
		comes(t, p, 1, tagged(0), x, 5, classify.Taken)
		comes(t, p, 1, frame.Frame{}, x, 5, classify.Taken)
		comes(t, p, 2, tagged(6), x, 0, classify.NoMember)
		comes(t, p, 1, tagged(7), x, 0, classify.NoVlan)
	}
}

// P11.1: every VLAN's number, of the frame's own and of the port's, with a few that there are.
func TestIngressOfEveryVid(t *testing.T) {
	x := table(t, of(1, 3), of(5, 3), of(256, 3), of(4094, 3))
	there := map[int]bool{1: true, 5: true, 256: true, 4094: true}
	for n := range 1 << 16 {
		vid, what := uint16(n), classify.Taken
		if !there[n] {
			vid, what = 0, classify.NoVlan
		}
		comes(t, classify.Port{Pvid: uint16(n)}, 3, frame.Frame{}, x, vid, what)
		if n > 0 {
			comes(t, classify.Port{Pvid: 2}, 3, tagged(uint16(n)), x, vid, what)
		}
	}
}

// P11.1: every port, of every set of members that has one or lacks one; without Filter none is asked for.
func TestIngressFilter(t *testing.T) {
	all := ports.Set(0xFFFF)
	for p := 1; p <= api.MaxPorts; p++ {
		for _, members := range []ports.Set{0, all, ports.Of(p), all.Without(p), ports.Of(p, 1, 16), ports.Of(1, 9)} {
			x := table(t, vlan.Vlan{Vid: 5, Members: members})
			for number := 1; number <= api.MaxPorts; number++ {
				vid, what := uint16(5), classify.Taken
				if members>>(number-1)&1 == 0 {
					vid, what = 0, classify.NoMember
				}
				comes(t, classify.Port{Pvid: 5, Filter: true}, number, frame.Frame{}, x, vid, what)
				comes(t, classify.Port{Pvid: 7, Filter: true}, number, tagged(5), x, vid, what)
				comes(t, classify.Port{Pvid: 5}, number, frame.Frame{}, x, 5, classify.Taken)
				comes(t, classify.Port{Pvid: 7}, number, tagged(5), x, 5, classify.Taken)
			}
		}
	}
}

// P11.1: the members are those of the frame's VLAN, not of the port's, and those that send untagged count as all others.
func TestIngressFilterByVlan(t *testing.T) {
	x := table(t, of(5, 1, 2), vlan.Vlan{Vid: 6, Members: ports.Of(2, 3), Untagged: ports.Of(3)})
	p := classify.Port{Pvid: 5, Filter: true}
	for _, c := range []struct {
		number    int
		five, six int
	}{
		{1, classify.Taken, classify.NoMember},
		{2, classify.Taken, classify.Taken},
		{3, classify.NoMember, classify.Taken},
		{4, classify.NoMember, classify.NoMember},
	} {
		comes(t, p, c.number, frame.Frame{}, x, vidOf(5, c.five), c.five)
		comes(t, p, c.number, tagged(6), x, vidOf(6, c.six), c.six)
	}
}

// vidOf a frame: 0, where it isn't taken.
func vidOf(vid uint16, what int) uint16 {
	if what != classify.Taken {
		return 0
	}
	return vid
}

// P11.1: numbers that are no ports' are no members'.
func TestIngressOfNoPort(t *testing.T) {
	x := table(t, vlan.Vlan{Vid: 5, Members: 0xFFFF})
	for _, number := range []int{0, -1, 17, 32, 33, 64, 65, 1<<32 + 1, math.MinInt, math.MaxInt} {
		comes(t, classify.Port{Pvid: 5, Filter: true}, number, frame.Frame{}, x, 0, classify.NoMember)
		comes(t, classify.Port{Pvid: 5}, number, frame.Frame{}, x, 5, classify.Taken)
		comes(t, classify.Port{Pvid: 5, Filter: true, Accept: classify.Tagged}, number, frame.Frame{}, x, 0, classify.Refused)
	}
}

// P11.1: of several causes the one that is named first.
func TestIngressOrder(t *testing.T) {
	x := table(t, of(5, 1))
	for _, c := range []struct {
		accept int
		f      frame.Frame
		what   int
	}{
		{classify.Untagged, tagged(9), classify.Refused}, // there is no VLAN 9, too
		{classify.Untagged, tagged(5), classify.Refused}, // nor is 2 a member of 5
		{classify.Tagged, frame.Frame{}, classify.Refused},
		{classify.Tagged, tagged(0), classify.Refused},
		{classify.Tagged, tagged(9), classify.NoVlan},
		{classify.All, tagged(9), classify.NoVlan},
		{classify.Tagged, tagged(5), classify.NoMember},
		{classify.All, tagged(5), classify.NoMember},
	} {
		for _, pvid := range []uint16{5, 9, 0, 65535} {
			comes(t, classify.Port{Pvid: pvid, Accept: c.accept, Filter: true}, 2, c.f, x, 0, c.what)
		}
	}
	comes(t, classify.Port{Pvid: 9, Accept: classify.Untagged, Filter: true}, 2, frame.Frame{}, x, 0, classify.NoVlan)
	comes(t, classify.Port{Pvid: 5, Accept: classify.Untagged, Filter: true}, 2, frame.Frame{}, x, 0, classify.NoMember)
}

// P11.1: a nil table has no VLAN, and what is refused is refused ahead of that.
func TestIngressOfNoTable(t *testing.T) {
	for _, x := range []*vlan.Table{nil, vlan.New()} {
		for _, filter := range []bool{false, true} {
			for _, vid := range []uint16{1, 5, 4094, 65535} {
				comes(t, classify.Port{Pvid: 5, Filter: filter}, 1, tagged(vid), x, 0, classify.NoVlan)
				comes(t, classify.Port{Pvid: vid, Filter: filter}, 1, frame.Frame{}, x, 0, classify.NoVlan)
				comes(t, classify.Port{Pvid: vid, Accept: classify.Tagged, Filter: filter}, 1, frame.Frame{}, x, 0, classify.Refused)
				comes(t, classify.Port{Pvid: 5, Accept: classify.Untagged, Filter: filter}, 1, tagged(vid), x, 0, classify.Refused)
			}
		}
	}
}

// P11.1: the table stays as it is, and what it is told between counts.
func TestIngressKeepsTable(t *testing.T) {
	x := table(t, of(5, 1))
	p := classify.Port{Pvid: 5, Filter: true}
	for range 3 {
		comes(t, p, 1, frame.Frame{}, x, 5, classify.Taken)
		comes(t, p, 1, tagged(6), x, 0, classify.NoVlan)
		comes(t, p, 2, frame.Frame{}, x, 0, classify.NoMember)
	}
	if l := x.List(); len(l) != 1 || l[0] != of(5, 1) {
		t.Errorf("the table has %+v", l)
	}
	x.Drop(5)
	comes(t, p, 1, frame.Frame{}, x, 0, classify.NoVlan)
	x.Set(of(5, 2))
	comes(t, p, 1, frame.Frame{}, x, 0, classify.NoMember)
	comes(t, p, 2, frame.Frame{}, x, 5, classify.Taken)
}
