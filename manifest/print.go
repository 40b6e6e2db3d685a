package manifest

import (
	"bytes"

	"packsaddle/api"
)

// Print writes a manifest.
func Print(m api.Manifest) ([]byte, api.Errno) {
	var out bytes.Buffer
	if e := printSection(&out, m.Main, mainFirst); e != api.OK {
		return nil, e
	}
	for _, part := range m.Parts {
		if e := printSection(&out, part, partFirst); e != api.OK {
			return nil, e
		}
	}
	return out.Bytes(), api.OK
}

// printSection writes a section that must begin with that name, and the empty line behind it.
func printSection(out *bytes.Buffer, section []api.Pair, first string) api.Errno {
	if len(section) == 0 {
		return api.ErrForm
	}
	ask := newJudge(first)
	for _, h := range section {
		if e := ask(h); e != api.OK {
			return e
		}
		for _, line := range Fold(h.Name + between + h.Value) {
			out.WriteString(line)
			out.WriteString(returnFeed)
		}
	}
	out.WriteString(returnFeed)
	return api.OK
}
