package flat

import (
	"testing"

	"exegete/api"
)

// doubled is a list that stands twice in another one, so often: little memory, and more parts than can be gone through.
func doubled(p api.Part, often int) api.Part {
	for i := range often {
		p = api.Part{Kind: api.Seq, L: []api.Part{p, p}, At: i}
	}
	return p
}

// P1, R1: parts without number end where no more of them may be made; as many as may be are made.
func TestManyParts(t *testing.T) {
	if newMaker().left != mostParts {
		t.Error("a maker does not begin by all there may be")
	}
	for _, leaf := range []api.Part{{Kind: api.Seq}, {Kind: api.Text}, {Kind: api.Call}, {Kind: api.Set}, {Kind: api.Text, Text: "xy"}} {
		m := newMaker()
		m.left = 100000
		m.rules([]api.Rule{{E: doubled(leaf, 200)}})
		if m.why != api.ErrSize || m.left != 0 {
			t.Errorf("of %v: %d, with %d left", leaf, m.why, m.left)
		}
	}
	// Three levels are 1, 2 and 4 parts, and 8 below them.
	for left, want := range map[int]api.Errno{0: api.ErrSize, 14: api.ErrSize, 15: api.OK, 16: api.OK} {
		m := newMaker()
		m.left = left
		m.rules([]api.Rule{{E: doubled(api.Part{Kind: api.Call}, 3)}})
		if m.why != want || want == api.OK && len(m.made[0].A[0]) != 8 {
			t.Errorf("with %d left: %d", left, m.why)
		}
	}
}
