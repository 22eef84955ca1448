package script_test

import (
	"strings"
	"testing"

	"girder/api"
	"girder/script"
)

// runs: Run of a text answers that.
func runs(t *testing.T, text, want string) {
	t.Helper()
	if got, err := script.Run(text); got != want || err != api.OK {
		t.Errorf("Run(%.60q) = %q, %d, want %q", text, got, err, want)
	}
}

// P30.2: line by line, each answer with a line feed behind it, the last line's too, whether one stands behind that or not.
func TestRun(t *testing.T) {
	runs(t, "", "")
	runs(t, "start", "ok\n")
	runs(t, "start\n", "ok\n")
	runs(t, "start\nnet", "ok\nsettled yes\nconsistent yes\nlooping no\n")
	runs(t, "tick 1\nwhat\nbridge 2 0 1\nbridge x 0 1\nbridge 1 0 17\nstart\nstart\ntick 0\nflow 3\nshow 0\nshow 1\n",
		"error 12\nerror 17\nok\nerror 18\nerror 6\nok\nerror 12\nok\nok 0\n"+
			"bridge 0 00:00:00:00:00:02 stations 0\nport 1 disabled discarding cost 1\ncounts 0 0 0 0 0 0 0 0 0 0 0 0 0 0\nerror 11\n")
}

// P30.2: lines without a byte, and those that begin with #, have no answer; others have, whatever stands in them.
func TestRunPassesOver(t *testing.T) {
	for _, text := range []string{"\n", "\n\n\n", "#", "#\n", "# start\n", "#start", "\n#\n\n##\n# bridge 1 0 2\n", "#\r\n#\x00\n#\xff"} {
		runs(t, text, "")
	}
	runs(t, "\n\nstart\n\n#\n\nflow 0\n\n", "ok\nok 0\n")
	runs(t, "# start\nflow 0\n#\nstart #\nstart\n#start", "error 12\nerror 17\nok\n")
	runs(t, " \n #\n\t\n\r\n\x00\n # start\n\xff\nstart\r\nstart \n start\nstart\x00", strings.Repeat("error 17\n", 11))
	runs(t, "start\rnet\vnet\u2028net\u0085net", "error 17\n")
}

// P30.2: each Run is a new script.
func TestRunAnew(t *testing.T) {
	for range 3 {
		runs(t, "bridge 1 0 0\nstart\nshow 0\nshow 1\n", "ok\nok\nbridge 0 00:00:00:00:00:01 stations 0\ncounts 0 0 0 0 0 0 0 0 0 0 0 0 0 0\nerror 11\n")
		runs(t, "cut 0", "error 12\n")
	}
}

// P30.2: as many bytes as may be, and one more; all bytes count, also those of lines that are passed over.
func TestRunLong(t *testing.T) {
	for _, fill := range []string{"\n", "#", "x", "start\n", "# a line of sixteen bytes\n", "\u00e9"} {
		text := strings.Repeat(fill, api.MaxScript/len(fill)+1)[:api.MaxScript]
		if _, err := script.Run(text); err != api.OK {
			t.Errorf("%d bytes of %q: %d", len(text), fill, err)
		}
		for _, more := range []string{"\n", "#", "x", text} {
			if got, err := script.Run(text + more); got != "" || err != api.ErrLong {
				t.Errorf("%d bytes of %q: %.60q, %d", len(text+more), fill, got, err)
			}
		}
	}
	runs(t, "start\n"+strings.Repeat("\n", api.MaxScript-len("start\nflow 1"))+"flow 1", "ok\nok 0\n")
	runs(t, strings.Repeat("what\n", api.MaxScript/5), strings.Repeat("error 17\n", api.MaxScript/5))
	runs(t, strings.Repeat("w", api.MaxScript), "error 17\n")
	runs(t, "bridge 1 0 "+strings.Repeat("0", api.MaxScript-len("bridge 1 0 ")), "error 18\n")
	runs(t, strings.Repeat(" ", api.MaxScript), "error 17\n")
}

// P30.2: Run of lines tells what Do tells of each.
func TestRunAsDo(t *testing.T) {
	lines := []string{"bridge 2 0 2", "bridge 1 0 2", "cable 0 1 1 1", "cable 0 2 1 2", "cost 0 1 5", "start", "tick 30", "net", "frame 1 1 4 6", "flow 9", "show 0", "cut 1", "lose 1 1", "come 0 0", "upgrade 1 2", "tick 9", "net", "join 1", "what", "tick x", "net"}
	s := script.New()
	var want strings.Builder
	for _, l := range lines {
		for _, a := range s.Do(l) {
			want.WriteString(a + "\n")
		}
	}
	runs(t, strings.Join(lines, "\n"), want.String())
	runs(t, "#\n\n"+strings.Join(lines, "\n\n#\n")+"\n", want.String())
}
