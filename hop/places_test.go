package hop

import (
	"testing"

	"slotmesh/api"
)

// The inverse array is built at the beginning, and the function agrees with it.
func TestPlaces(t *testing.T) {
	for i, channel := range table {
		if places[channel] != i || place(channel) != i {
			t.Errorf("the channel %d at %d: %d %d", channel, i, places[channel], place(channel))
		}
	}
}

// P11.1, P11.3, P11.5: Offset and Wait answer by the function, whatever the inverse array holds.
func TestResultsWithoutPlaces(t *testing.T) {
	built := places
	t.Cleanup(func() { places = built })
	for _, other := range [][api.Channels]int{{}, table, {3, -1, 99, 16}} {
		places = other
		for _, asn := range []int{0, 1, 15, 16, 999, api.MaxASN} {
			for channel, i := range built {
				checkPlace(t, asn, channel, i)
			}
		}
	}
}

// checkPlace checks the results for a channel that stands at i in the table.
func checkPlace(t *testing.T, asn, channel, i int) {
	t.Helper()
	want := (i + api.Channels - asn%api.Channels) % api.Channels
	if o, e := Offset(asn, channel); o != want || e != api.OK {
		t.Errorf("Offset(%d, %d) = %d %v", asn, channel, o, e)
	}
	for offset := range api.Channels {
		late := (want + api.Channels - offset) % api.Channels
		if w, e := Wait(asn, offset, channel); w != late || e != api.OK {
			t.Errorf("Wait(%d, %d, %d) = %d %v", asn, offset, channel, w, e)
		}
	}
}
