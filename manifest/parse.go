package manifest

import (
	"strings"

	"packsaddle/api"
)

// Parse reads a manifest.
func Parse(b []byte) (api.Manifest, api.Errno) {
	if len(b) > api.MaxBytes {
		return api.Manifest{}, api.ErrLong
	}
	text := strings.ReplaceAll(string(b), returnFeed, feed)
	if !strings.HasSuffix(text, feed) {
		return api.Manifest{}, api.ErrEnd
	}
	if e := wrongLine(text); e != api.OK {
		return api.Manifest{}, e
	}
	// Each line that goes on is known to have one ahead, so that what ends that one may go.
	return parseSections(strings.ReplaceAll(text, feed+goesOn, ""))
}

// wrongLine tells what is wrong with the first line that may not be.
func wrongLine(text string) api.Errno {
	ahead := ""
	for line := range strings.Lines(text) {
		line = strings.TrimSuffix(line, feed)
		switch {
		case len(line) > api.MaxLine:
			return api.ErrLong
		case strings.HasPrefix(line, goesOn) && ahead == "":
			return api.ErrForm
		}
		ahead = line
	}
	return api.OK
}

// parseSections reads the sections of a text in which no line goes on.
func parseSections(text string) (api.Manifest, api.Errno) {
	var m api.Manifest
	for section := range strings.SplitSeq(text, feed+feed) {
		section = strings.Trim(section, feed)
		if section == "" { // one or more empty lines end a section: more end none
			continue
		}
		first := partFirst
		if m.Main == nil {
			first = mainFirst
		}
		headers, e := parseSection(section, first)
		if e != api.OK {
			return api.Manifest{}, e
		}
		if m.Main == nil {
			m.Main = headers
		} else {
			m.Parts = append(m.Parts, headers)
		}
	}
	if m.Main == nil {
		return api.Manifest{}, api.ErrForm
	}
	return m, api.OK
}

// parseSection reads the headers of a section that begins with that name.
func parseSection(section, first string) ([]api.Pair, api.Errno) {
	var out []api.Pair
	ask := newJudge(first)
	for line := range strings.SplitSeq(section, feed) {
		name, value, parted := strings.Cut(line, between)
		if !parted {
			return nil, api.ErrForm
		}
		h := api.Pair{Name: name, Value: value}
		if e := ask(h); e != api.OK {
			return nil, e
		}
		out = append(out, h)
	}
	return out, api.OK
}
