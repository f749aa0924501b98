package api_test

import (
	"testing"

	"postbag/api"
)

// Tests elsewhere take these numbers by name, so here they are held against the document's.
func TestNumbers(t *testing.T) {
	numbers := []struct {
		name      string
		got, want int
	}{
		{"MaxName", api.MaxName, 40}, {"MaxLabel", api.MaxLabel, 20}, {"MaxLine", api.MaxLine, 100},
		{"MaxTo", api.MaxTo, 10}, {"MaxSize", api.MaxSize, 1000}, {"MaxUsers", api.MaxUsers, 5},
		{"MaxNets", api.MaxNets, 5}, {"MaxWaits", api.MaxWaits, 5}, {"MaxTime", api.MaxTime, 1000000000},
		{"MaxAddr", api.MaxAddr, 4294967295}, {"MaxConns", api.MaxConns, 100}, {"MaxRoom", api.MaxRoom, 1000000},
		{"MaxDomains", api.MaxDomains, 5},
		{"OK", int(api.OK), 0}, {"ErrNil", int(api.ErrNil), 1}, {"ErrConfig", int(api.ErrConfig), 2},
		{"ErrArg", int(api.ErrArg), 3}, {"ErrClosed", int(api.ErrClosed), 4}, {"ErrIdle", int(api.ErrIdle), 5},
		{"ErrBusy", int(api.ErrBusy), 6},
	}
	for _, n := range numbers {
		if n.got != n.want {
			t.Errorf("%s is %d, want %d", n.name, n.got, n.want)
		}
	}
}
