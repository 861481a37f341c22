package probe_test

import (
	"testing"

	"nightjar/probe"
)

func TestRoomySeesChanges(t *testing.T) {
	l, kept := probe.Roomy([]int{1, 2}, 9)
	if len(l) != 2 || cap(l) < 3 || !kept() {
		t.Fatal("not a list with room")
	}
	if _ = append(l, 3); kept() {
		t.Error("a change of the spare room is not seen")
	}
	l, kept = probe.Roomy([]int{1, 2}, 9)
	if l[0] = 5; kept() {
		t.Error("a change of the list is not seen")
	}
}

func TestSharesSeesSpareRoom(t *testing.T) {
	l := make([]int, 2, 6)
	if !probe.Shares(l, l[:0]) || !probe.Shares(l, l[2:4]) || !probe.Shares(l[3:5], l) || !probe.Shares(l, l[5:6]) {
		t.Error("shared memory is not seen")
	}
	if probe.Shares(l, make([]int, 2)) || probe.Shares(l, nil) || probe.Shares(nil, l) || probe.Shares(l[0:1:1], l[1:2]) {
		t.Error("unlike memory is called shared")
	}
}
