package script_test

import (
	"regexp"
	"slices"
	"testing"

	"girder/script"
)

// The whole's examples 1 and 2: two bridges, two cables.
func TestExampleNet(t *testing.T) {
	s := twins(t)
	does(t, s, "tick 30")
	got := s.Do("net")
	numbers := regexp.MustCompile(`^counts( (0|[1-9][0-9]*)){14}$`)
	if len(got) != 11 || !numbers.MatchString(got[3]) || !numbers.MatchString(got[7]) {
		t.Fatalf("is %q", got)
	}
	got[3], got[7] = "", ""
	if want := []string{
		"bridge 0 00:00:00:00:00:02 stations 0",
		"port 1 root forwarding cost 1",
		"port 2 alternate discarding cost 1",
		"",
		"bridge 0 00:00:00:00:00:01 stations 0",
		"port 1 designated forwarding cost 1",
		"port 2 designated forwarding cost 1",
		"",
		"settled yes", "consistent yes", "looping no",
	}; !slices.Equal(got, want) {
		t.Errorf("is %q, want %q", got, want)
	}
}

// The whole's examples 3, 4 and 5: a cable is cut, and both bridges are upgraded.
func TestExampleUpgrades(t *testing.T) {
	s := twins(t)
	does(t, s, "tick 30", "cut 0")
	shows(t, s, 0, 1, "disabled discarding cost 1")
	shows(t, s, 0, 2, "root forwarding cost 1")
	was := s.Do("show 0")
	does(t, s, "upgrade 0 3")
	answers(t, s, "show 0", was...)
	fails(t, s, 8, "upgrade 0 4")
	does(t, s, "upgrade 1 1")
	shows(t, s, 1, 1, "disabled discarding cost 1")
	shows(t, s, 1, 2, "designated discarding cost 1")
	does(t, s, "tick 30")
	if got := s.Do("net"); got[len(got)-3] != "settled yes" {
		t.Errorf("is %q", got)
	}
}

// The whole's example 5, with no cable cut: both ports of the bridge 1 are closed at first.
func TestExampleBoth(t *testing.T) {
	s := twins(t)
	does(t, s, "tick 30", "upgrade 1 1")
	shows(t, s, 1, 1, "designated discarding cost 1")
	shows(t, s, 1, 2, "designated discarding cost 1")
	does(t, s, "tick 30")
	if got := s.Do("net"); got[len(got)-3] != "settled yes" {
		t.Errorf("is %q", got)
	}
}

// The whole's examples 6 and 7, and the chapter's: what is wrong.
func TestExampleErrors(t *testing.T) {
	s := script.New()
	fails(t, s, 12, "tick 5", "tick 3")
	fails(t, s, 6, "bridge 1 0 17")
	does(t, s, "bridge 2 0 2", "bridge 1 0 2", "cable 0 1 1 3")
	fails(t, s, 14, "start")
	s = twins(t)
	s.Do("flow 99")
	fails(t, s, 11, "lose 0 0", "cut 9")
}
