// Package rules tests what the document says of the program as a whole, whatever the layer.
package rules

import (
	"testing"

	"telemeter/api"
)

func TestLimits(t *testing.T) {
	for _, c := range []struct {
		name      string
		got, want uint64
	}{
		{"MaxName", api.MaxName, 60},
		{"MaxBody", api.MaxBody, 200},
		{"MaxAttrs", api.MaxAttrs, 8},
		{"MaxFrame", api.MaxFrame, 4096},
		{"MaxState", api.MaxState, 512},
		{"MaxMembers", api.MaxMembers, 32},
		{"MaxRows", api.MaxRows, 8},
		{"MaxWidth", api.MaxWidth, 1024},
		{"MaxKeep", api.MaxKeep, 1000},
		{"MaxWeight", api.MaxWeight, 4294967296},
		{"MaxTime", api.MaxTime, 1099511627776},
		{"MaxRules", api.MaxRules, 20},
		{"MaxSpans", api.MaxSpans, 5000},
		{"MaxBatches", api.MaxBatches, 1000},
		{"MaxBatch", api.MaxBatch, 100},
		{"MaxWindow", api.MaxWindow, 64},
		{"MaxSeen", api.MaxSeen, 1000},
		{"MaxText", api.MaxText, 4000},
		{"MaxAgents", api.MaxAgents, 4},
		{"MaxNet", api.MaxNet, 500},
		{"Whole", api.Whole, 72057594037927936},
	} {
		if c.got != c.want {
			t.Errorf("%s is %d; want %d", c.name, c.got, c.want)
		}
	}
}

func TestErrors(t *testing.T) {
	for _, c := range []struct {
		e    api.Errno
		want uint16
		text string
	}{
		{api.OK, 0, "telemeter 0"},
		{api.ErrArg, 1, "telemeter 1"},
		{api.ErrLong, 3, "telemeter 3"},
		{api.ErrShort, 10, "telemeter 10"},
		{api.ErrSum, 30, "telemeter 30"},
		{api.ErrForm, 31, "telemeter 31"},
		{api.ErrItem, 40, "telemeter 40"},
		{api.ErrName, 50, "telemeter 50"},
		{api.ErrTime, 60, "telemeter 60"},
		{api.ErrFull, 70, "telemeter 70"},
		{api.ErrNone, 71, "telemeter 71"},
	} {
		if uint16(c.e) != c.want || error(c.e).Error() != c.text {
			t.Errorf("error %d tells %q; want %d, %q", uint16(c.e), c.e.Error(), c.want, c.text)
		}
	}
}

func TestKinds(t *testing.T) {
	for _, c := range []struct {
		what string
		got  []uint8
	}{
		{"rules", []uint8{api.Slow, api.Wrong, api.Has, api.Many, api.Share}},
		{"a buffer's answers", []uint8{api.Taken, api.Busy, api.Late, api.After}},
		{"a collector's answers", []uint8{api.Fresh, api.Again, api.Full}},
		{"ops", []uint8{api.OpTick, api.OpIngest, api.OpStep, api.OpDeliver, api.OpDrop, api.OpTwice, api.OpCrash}},
	} {
		for i, kind := range c.got {
			if int(kind) != i+1 {
				t.Errorf("%s: number %d at place %d", c.what, kind, i)
			}
		}
	}
}
