package refs_test

import (
	"testing"

	"rhizome/api"
	"rhizome/refs"
)

func TestCut(t *testing.T) {
	for wraps, want := range map[string]struct {
		end  byte
		left string
	}{
		"": {0, ""}, "!": {'!', ""}, "[": {'[', ""}, "![": {'[', "!"}, "[!": {'!', "["}, "![!": {'!', "!["}, "!!": {'!', "!"}, "[[": {'[', "["},
		"?": {0, "?"}, "!?": {0, "!?"}, "?!": {'!', "?"}, "[]": {0, "[]"}, "! ": {0, "! "}, "\x00": {0, "\x00"}, "!\xff": {0, "!\xff"}, "\xff[": {'[', "\xff"},
	} {
		for _, name := range []string{"", "T", "!", "T!", "["} {
			end, left := refs.Cut(api.Ref{Name: name, Wraps: wraps})
			if end != want.end || left != (api.Ref{Name: name, Wraps: want.left}) {
				t.Errorf("%q, %q: %q, %q", name, wraps, end, left)
			}
		}
	}
}
