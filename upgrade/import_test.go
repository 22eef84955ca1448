package upgrade_test

import (
	"testing"

	"girder/api"
	"girder/bridge"
	"girder/crc"
	"girder/image"
	"girder/record"
	"girder/tlv"
	"girder/upgrade"
	"girder/vlan"
)

// other state of four ports, of another bridge, that works by other settings.
func other() record.State {
	s := boots(4)
	s.ID, s.MaxAge, s.Hello, s.Delay, s.Room, s.Live = 77, 20, 4, 9, 64, 900
	s.Ports[0].Pvid, s.Ports[1].Cost, s.Ports[3].Edge = 8, 9999, true
	s.Vlans = []vlan.Vlan{{Vid: 1, Members: 15}, {Vid: 8, Members: 15, Untagged: 15}}
	b := bridge.Load(s)
	b.Start()
	work(b)
	return b.State()
}

// refuses bytes: its bridge is as it boots by that, and so is what it exports and sends.
func refuses(t *testing.T, what string, m *upgrade.Machine, boot record.State, b string, want api.Errno) {
	t.Helper()
	imports(t, what, m, b, want)
	is(t, what, m, boot.Cold())
	if img, err := m.Export(3); err != api.OK || img != encode(t, boot.Cold(), 3) {
		t.Fatalf("%s: exports %x, %d", what, img, err)
	}
}

// change some section of an image, under a sum that goes with it.
func change(t *testing.T, b string, kind uint8, how func(data []byte) []byte) string {
	t.Helper()
	version, l, err := tlv.Parse(b)
	if err != api.OK {
		t.Fatalf("no image: %d", err)
	}
	for i, s := range l {
		if s.Kind == kind {
			l[i].Data = string(how([]byte(s.Data)))
		}
	}
	b, _ = tlv.Build(version, l)
	return b
}

// P25.2: the state that was read, of each version, of its own bridge and of another one, however often.
func TestImport(t *testing.T) {
	m := frozen(t)
	own := m.State()
	for _, s := range []record.State{own, other(), boots(4), own.Cold(), off(boots(4)), own} {
		for version := uint8(1); version <= 3; version++ {
			imports(t, "good", m, encode(t, s, version), api.OK)
			is(t, "good", m, image.Lift(s, version))
			b, err := m.Export(3)
			if err != api.OK || b != encode(t, image.Lift(s, version), 3) {
				t.Errorf("exports %x, %d", b, err)
			}
		}
	}
}

// P25.2: each error of layer 23's; by it the bridge is as the machine boots, not as it was, and not as it was imported ahead of it.
func TestImportRefused(t *testing.T) {
	m := frozen(t)
	good := encode(t, other(), 3)
	first := func(n byte) func(data []byte) []byte {
		return func(data []byte) []byte { data[0] = n; return data }
	}
	more := func(data []byte) []byte { return append(data, 0) }
	for _, c := range []struct {
		b    string
		want api.Errno
	}{
		{"", api.ErrShort}, {"abc", api.ErrShort}, {good[:len(good)-1], api.ErrShort}, {good + "x", api.ErrLong}, {good + good, api.ErrLong},
		{"X" + good[1:], api.ErrMagic}, {good[:4] + "\x00" + good[5:], api.ErrKind}, {good[:4] + "\x04" + good[5:], api.ErrKind},
		{good[:4] + "\x02" + good[5:], api.ErrSum}, {good[:len(good)-1] + string([]byte{^good[len(good)-1]}), api.ErrSum},
		{change(t, good, 6, more), api.ErrForm}, {change(t, good, 1, more), api.ErrForm},
		{change(t, good, 6, first(5)), api.ErrRange},
		{change(t, good, 3, func(data []byte) []byte { return append(data, data...) }), api.ErrOrder},
		{change(t, good, 1, func(data []byte) []byte { data[7]++; return data }), api.ErrWord},
		{change(t, good, 2, first(255)), api.ErrVlan},
	} {
		for _, from := range []record.State{worked(t).State(), other(), boots(4)} {
			imports(t, "ahead of it", m, encode(t, from, 3), api.OK)
			refuses(t, "refused", m, boots(4), c.b, c.want)
			refuses(t, "refused once more", m, boots(4), c.b, c.want)
		}
	}
	imports(t, "behind it", m, good, api.OK)
	is(t, "behind it", m, other())
}

// P25.2: of more or fewer ports than it boots with, in each version; of as many it is taken.
func TestImportPorts(t *testing.T) {
	for own := range 17 {
		m := machine(t, boots(own))
		freezes(t, m, api.OK)
		was := m.State()
		for n := range 17 {
			s, _ := started(boots(n))
			for version := uint8(1); version <= 3; version++ {
				b := encode(t, s, version)
				imports(t, "its own", m, encode(t, was, 3), api.OK)
				if n == own {
					imports(t, "as many", m, b, api.OK)
					is(t, "as many", m, image.Lift(s, version))
				} else {
					refuses(t, "not as many", m, boots(own), b, api.ErrPort)
				}
			}
		}
	}
}

// P25.2: how many ports it has is what it boots with, not what was imported; what is no image is that, of however many ports.
func TestImportPortsAgain(t *testing.T) {
	m := frozen(t)
	for range 2 {
		refuses(t, "fewer", m, boots(4), encode(t, boots(3), 3), api.ErrPort)
		refuses(t, "none", m, boots(4), encode(t, boots(0), 1), api.ErrPort)
		refuses(t, "more", m, boots(4), encode(t, boots(5), 2), api.ErrPort)
		imports(t, "as many", m, encode(t, other(), 3), api.OK)
	}
	b := encode(t, boots(3), 3)
	refuses(t, "fewer, and cut", m, boots(4), b[:len(b)-1], api.ErrShort)
	refuses(t, "fewer, and spoilt", m, boots(4), b[:len(b)-1]+string([]byte{^b[len(b)-1]}), api.ErrSum)
	refuses(t, "fewer, and wrong", m, boots(4), change(t, b, 6, func(data []byte) []byte { data[0] = 9; return data }), api.ErrRange)
}

// P25.2, the whole's example 9: an image that was cut, lengthened, or turned within 32 bits is refused, and the machine is as it boots.
func TestImportSpoilt(t *testing.T) {
	m := frozen(t)
	for version := uint8(1); version <= 3; version++ {
		good := encode(t, other(), version)
		spoilt := func(b string) {
			t.Helper()
			imports(t, "good", m, good, api.OK)
			if m.Import(b) == api.OK {
				t.Fatalf("%x: it is taken, as %x is", b, good)
			}
			is(t, "spoilt", m, boots(4))
		}
		for n := range len(good) {
			spoilt(good[:n])
		}
		for c := range 256 {
			spoilt(good + string([]byte{byte(c)}))
		}
		for at := range 8 * len(good) {
			for _, bits := range []uint32{1, 3, 0x80000001, 0xFFFFFFFF} {
				if b := crc.Turn(good, at, bits); b != good {
					spoilt(b)
				}
			}
		}
	}
}

// P25.2: what Resume sends, and what it makes of a state.
func TestResume(t *testing.T) {
	cold := boots(4)
	lonely, last, rooted := off(boots(4)), off(boots(16)), worked(t).State()
	lonely.Ports[2].Up, lonely.Ports[2].Admin = true, true
	last.Ports[15].Up, last.Ports[15].Admin = true, true
	b := bridge.Load(rooted)
	b.Switch(2, false, true)
	b.Switch(4, true, false)
	partly := b.State()
	lit, _ := started(lonely)
	for _, c := range []struct {
		what        string
		s           record.State
		last, elder bool // does it start behind an image of version 3, of an elder one?
	}{
		{"cold", cold, true, true},
		{"all off", off(cold), false, false},
		{"one on", lonely, true, true},
		{"one on, begun", lit, false, true},
		{"the last of all on", last, true, true},
		{"no ports", boots(0), false, false},
		{"begun", rooted, false, true},
		{"begun, and some off", partly, false, true},
		{"begun, and made cold", rooted.Cold(), true, true},
	} {
		m := machine(t, c.s)
		freezes(t, m, api.OK)
		for version, starts := range map[uint8]bool{1: c.elder, 2: c.elder, 3: c.last} {
			imports(t, c.what, m, encode(t, c.s, version), api.OK)
			want, told := image.Lift(c.s, version), []bridge.Sent(nil)
			if starts {
				want, told = started(want)
			}
			if starts != (len(told) > 0) {
				t.Fatalf("%s: %d told", c.what, len(told))
			}
			resumes(t, c.what, m, told)
			is(t, c.what, m, want)
			freezes(t, m, api.OK)
			resumes(t, c.what+", again", m, nil)
			is(t, c.what+", again", m, want)
			freezes(t, m, api.OK)
		}
	}
}

// P25.2: behind bytes that were refused it starts as it booted.
func TestResumeRefused(t *testing.T) {
	for n := range 17 {
		for _, boot := range []record.State{boots(n), off(boots(n))} {
			m, booted, _ := upgrade.New(boot)
			begun := m.State()
			if n > 3 {
				does(t, m, work)
			}
			freezes(t, m, api.OK)
			refuses(t, "refused", m, boot, "GRDR", api.ErrShort)
			resumes(t, "refused", m, booted)
			is(t, "refused", m, begun)
		}
	}
}

// P25.2, the whole's example 10: of version 1 there are no static entries and no stations, and the ports are closed.
func TestFirstVersion(t *testing.T) {
	m := frozen(t)
	b, _ := m.Export(1)
	imports(t, "version 1", m, b, api.OK)
	_, told := started(worked(t).State().Cold())
	resumes(t, "version 1", m, told)
	s := m.State()
	if len(s.Static) > 0 || len(s.Fdb) > 0 || len(s.Vlans) != 3 {
		t.Errorf("%+v", s)
	}
	for i, p := range s.Ports {
		if edge := i == 2; p.Role != record.Designated || (p.State == record.Discarding) == edge {
			t.Errorf("port %d: %+v", i+1, p)
		}
	}
}
