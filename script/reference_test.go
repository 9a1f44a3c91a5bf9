package script_test

import (
	"crypto/sha256"
	"encoding/binary"
	"strings"

	"byname/api"
)

// wordReference is the first word by the chapter's words.
func wordReference(b []byte) (code byte, pushed []byte, size int, ok bool) {
	if len(b) == 0 {
		return 0, nil, 0, false
	}
	head, behind := 1, 0
	switch {
	case b[0] >= 1 && b[0] <= 75:
		behind = int(b[0])
	case b[0] == 76 && len(b) >= 2:
		head, behind = 2, int(b[1])
	case b[0] == 77 && len(b) >= 3:
		head, behind = 3, int(binary.LittleEndian.Uint16(b[1:]))
	case b[0] == 76 || b[0] == 77:
		return 0, nil, 0, false
	}
	if len(b) < head+behind {
		return 0, nil, 0, false
	}
	pushed = b[head : head+behind]
	if b[0] >= 81 && b[0] <= 96 {
		pushed = []byte{b[0] - 80}
	}
	return b[0], pushed, head + behind, true
}

// A branch of the model: it is gone, or isn't, or was begun in one that isn't.
const (
	gone = iota
	notGone
	within
)

// pair is a signature's bytes, and a point's.
type pair [2]string

// model is a run by the chapter's words. What was signed it is told:
// all pairs that verify.
type model struct {
	stack    []string
	branches []int
	signed   map[pair]bool
}

func isTrue(s string) bool { return strings.Trim(s, "\x00") != "" }

func (m *model) push(l ...string) { m.stack = append(m.stack, l...) }

// take is the n upmost pieces, the lowest of them first; they go.
func (m *model) take(n int) ([]string, bool) {
	at := len(m.stack) - n
	if at < 0 {
		return nil, false
	}
	l := append([]string{}, m.stack[at:]...)
	m.stack = m.stack[:at]
	return l, true
}

func (m *model) skipping() bool {
	for _, b := range m.branches {
		if b != gone {
			return true
		}
	}
	return false
}

func yes(b bool) string {
	if b {
		return "\x01"
	}
	return ""
}

func lengthReference(s string) string {
	b := binary.LittleEndian.AppendUint16(nil, uint16(len(s)))
	return strings.TrimRight(string(b), "\x00")
}

func sumReference(s string) string {
	h := sha256.Sum256([]byte(s))
	return string(h[:])
}

// takes is how many pieces each word needs.
var takes = map[byte]int{
	97: 0, 99: 1, 100: 1, 103: 0, 104: 0, 105: 1, 106: 0, 109: 2, 117: 1, 118: 1, 120: 2, 124: 2,
	130: 1, 135: 2, 136: 2, 168: 1, 169: 1, 172: 2, 173: 2,
}

// work does a word that is no push, and isn't skipped.
func (m *model) work(code byte) api.Errno {
	n, known := takes[code]
	if !known {
		return 71
	}
	l, enough := m.take(n)
	if !enough {
		return 72
	}
	// x is the upmost, y the next one below.
	var x, y string
	if n > 0 {
		x = l[n-1]
	}
	if n > 1 {
		y = l[0]
	}
	return m.effect(code, x, y)
}

func (m *model) effect(code byte, x, y string) api.Errno {
	holds := true
	switch code {
	case 99:
		m.branches = append(m.branches, map[bool]int{true: gone, false: notGone}[isTrue(x)])
	case 100:
		m.branches = append(m.branches, map[bool]int{true: notGone, false: gone}[isTrue(x)])
	case 103, 104:
		return m.turnOrEnd(code)
	case 105:
		holds = isTrue(x)
	case 106:
		holds = false
	case 118:
		m.push(x, x)
	case 120:
		m.push(y, x, y)
	case 124:
		m.push(x, y)
	case 130:
		m.push(x, lengthReference(x))
	case 135:
		m.push(yes(x == y))
	case 136:
		holds = x == y
	case 168:
		m.push(sumReference(x))
	case 169:
		m.push(sumReference(sumReference(x))[:20])
	case 172:
		m.push(yes(m.signed[pair{y, x}]))
	case 173:
		holds = m.signed[pair{y, x}]
	}
	if !holds {
		return 74
	}
	return 0
}

func (m *model) turnOrEnd(code byte) api.Errno {
	last := len(m.branches) - 1
	if last < 0 {
		return 71
	}
	if code == 104 {
		m.branches = m.branches[:last]
		return 0
	}
	m.branches[last] = map[int]int{gone: notGone, notGone: gone, within: within}[m.branches[last]]
	return 0
}

// skip is what is done of a word that is skipped.
func (m *model) skip(code byte) api.Errno {
	switch code {
	case 99, 100:
		m.branches = append(m.branches, within)
	case 103, 104:
		return m.turnOrEnd(code)
	}
	return 0
}

func (m *model) script(b []byte, pushesAlone bool) api.Errno {
	passed := 0
	for len(b) > 0 {
		code, pushed, size, ok := wordReference(b)
		if !ok {
			return 71
		}
		b = b[size:]
		push := code < 78 || code > 80 && code < 97
		if !push && pushesAlone {
			return 71
		}
		if !push {
			passed++
		}
		if len(pushed) > 520 || passed > 100 {
			return 73
		}
		e := api.Errno(0)
		switch {
		case m.skipping():
			e = m.skip(code)
		case push:
			m.push(string(pushed))
		default:
			e = m.work(code)
		}
		if e != 0 {
			return e
		}
		if len(m.stack) > 100 {
			return 73
		}
	}
	if len(m.branches) > 0 {
		return 71
	}
	return 0
}

// run is what both scripts come to, and the stack behind them.
func (m *model) run(unlock, lock []byte) (api.Errno, []string) {
	if len(unlock) > 2000 || len(lock) > 2000 {
		return 73, nil
	}
	if e := m.script(unlock, true); e != 0 {
		return e, nil
	}
	if e := m.script(lock, false); e != 0 {
		return e, nil
	}
	if len(m.stack) == 0 || !isTrue(m.stack[len(m.stack)-1]) {
		return 74, m.stack
	}
	return 0, m.stack
}
