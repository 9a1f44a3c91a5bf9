package script_test

import (
	"bytes"
	"testing"

	"byname/api"
	"byname/script"
)

func repeated(word string, n int) []byte { return bytes.Repeat([]byte(word), n) }

func holdRun(t *testing.T, unlock, lock []byte, want api.Errno) {
	t.Helper()
	if got := script.Run(unlock, lock, api.Hash{}); got != want {
		t.Errorf("Run %.30q %.30q (%d and %d bytes): %d, want %d", unlock, lock, len(unlock), len(lock), got, want)
	}
	if got := script.Opens(unlock, lock, api.Hash{}); got != (want == api.OK) {
		t.Errorf("Opens %.30q %.30q (%d and %d bytes): %t", unlock, lock, len(unlock), len(lock), got)
	}
}

// holdStack asks what stack there is behind lock, the lowest piece first, by
// words behind it that take one piece after the other.
func holdStack(t *testing.T, unlock, lock []byte, h api.Hash, want ...string) {
	t.Helper()
	lock = bytes.Clone(lock)
	for i := len(want) - 1; i >= 0; i-- {
		lock = append(script.Push(lock, []byte(want[i])), 136)
	}
	if e := script.Run(unlock, append(lock, 81), h); e != api.OK {
		t.Errorf("%.30q %.60q: error %d with the stack %.60q", unlock, lock, e, want)
	}
	if e := script.Run(unlock, append(lock, 117), h); e != api.ErrStack {
		t.Errorf("%.30q %.60q: error %d below the stack %.60q", unlock, lock, e, want)
	}
}

// Errors, limits: their numbers.
func TestNumbers(t *testing.T) {
	if api.ErrCode != 71 || api.ErrStack != 72 || api.ErrLimit != 73 || api.ErrFalse != 74 {
		t.Errorf("%d %d %d %d", api.ErrCode, api.ErrStack, api.ErrLimit, api.ErrFalse)
	}
	if api.MaxScript != 2000 || api.MaxPush != 520 || api.MaxOps != 100 || api.MaxStack != 100 {
		t.Errorf("%d %d %d %d", api.MaxScript, api.MaxPush, api.MaxOps, api.MaxStack)
	}
}

// P7.2, Examples: the end of a run.
func TestRunEnds(t *testing.T) {
	for _, c := range []struct {
		unlock, lock string
		want         api.Errno
	}{
		{"", "\x51", api.OK},
		{"", "\x00", api.ErrFalse},
		{"", "", api.ErrFalse},
		{"\x51", "", api.OK},
		{"\x00", "", api.ErrFalse},
		{"\x51", "\x75", api.ErrFalse},
		{"\x00", "\x51", api.OK},
		{"\x51", "\x00", api.ErrFalse},
		{"\x51\x51", "\x00", api.ErrFalse},
		{"", "\x01\x00", api.ErrFalse},
		{"", "\x02\x00\x00", api.ErrFalse},
		{"", "\x02\x00\x01", api.OK},
		{"", "\x02\x80\x00", api.OK},
		{"", "\x01\x80", api.OK},
		{"", "\x60", api.OK},
	} {
		holdRun(t, []byte(c.unlock), []byte(c.lock), c.want)
	}
	holdRun(t, nil, nil, api.ErrFalse)
	holdStack(t, []byte("\x01a\x01b"), []byte("\x01c\x00"), api.Hash{}, "a", "b", "c", "")
}

// P7.2: of 2000 bytes, and of one more, each of both, whatever stands there.
func TestRunOfLongScripts(t *testing.T) {
	fits := script.Push(script.Push(script.Push(nil, sample(520)), sample(520)), sample(520))
	fits = script.Push(fits, sample(api.MaxScript-3-len(fits)))
	if len(fits) != api.MaxScript {
		t.Fatal(len(fits))
	}
	holdRun(t, fits, fits, api.OK)
	holdRun(t, append(bytes.Clone(fits), 81), fits, api.ErrLimit)
	holdRun(t, fits, append(bytes.Clone(fits), 81), api.ErrLimit)
	wrong := repeated("\xff", api.MaxScript)
	holdRun(t, wrong, wrong, api.ErrCode)
	holdRun(t, append(wrong, 255), nil, api.ErrLimit)
	holdRun(t, nil, append(wrong, 255), api.ErrLimit)
	holdRun(t, wrong, append(wrong, 255), api.ErrLimit)
	holdRun(t, []byte{255}, repeated("\x51", 70000), api.ErrLimit)
	holdRun(t, repeated("\x51", 70000), []byte{255}, api.ErrLimit)
}

// P7.2: what is to open a lock has pushes alone, and is done word by word.
func TestUnlockPushesAlone(t *testing.T) {
	for code := range 256 {
		word := []byte{byte(code)}
		want := api.ErrCode
		switch {
		case code == 0 || code >= 81 && code <= 96:
			want = api.OK
		case code <= 75:
			word, want = append(word, sample(code)...), api.OK
		case code == 76:
			word, want = append(word, 2, 1, 1), api.OK
		case code == 77:
			word, want = append(word, 2, 0, 1, 1), api.OK
		}
		holdRun(t, word, []byte{81}, want)
		holdRun(t, joined([]byte{81, 81, 81}, word, []byte{81}), []byte{81}, want)
	}
	tooLong := script.Push(nil, sample(521))
	for _, c := range []struct {
		unlock []byte
		want   api.Errno
	}{
		{joined([]byte{97}, tooLong), api.ErrCode},
		{joined(tooLong, []byte{97}), api.ErrLimit},
		{joined(repeated("\x51", 100), []byte{97}), api.ErrCode},
		{joined(repeated("\x51", 101), []byte{97}), api.ErrLimit},
		{joined(tooLong, []byte{5}), api.ErrLimit},
		{[]byte{81, 5}, api.ErrCode},
		{[]byte{117}, api.ErrCode},
		{[]byte{106}, api.ErrCode},
		{[]byte{81, 99, 104}, api.ErrCode},
		{repeated("\x61", 101), api.ErrCode},
	} {
		holdRun(t, c.unlock, []byte{81}, c.want)
		holdRun(t, c.unlock, []byte{255}, c.want)
	}
}

// P7.3: each push, and what comes upon the stack by it.
func TestPushes(t *testing.T) {
	for code := range 76 {
		holdStack(t, nil, append([]byte{byte(code)}, sample(code)...), api.Hash{}, string(sample(code)))
	}
	for n := 1; n <= 16; n++ {
		holdStack(t, []byte{byte(80 + n)}, []byte{byte(80 + n)}, api.Hash{}, string(rune(n)), string(rune(n)))
	}
	holdStack(t, nil, []byte("\x4c\x00\x4c\x02ab\x4d\x00\x00\x4d\x02\x00cd"), api.Hash{}, "", "ab", "", "cd")
	for _, n := range []int{76, 255, 256, 519, 520} {
		holdStack(t, nil, script.Push(nil, sample(n)), api.Hash{}, string(sample(n)))
	}
}

// P7.3: words that aren't any, and such as end too early.
func TestNoWords(t *testing.T) {
	words := map[int]bool{}
	for code := range takes {
		words[int(code)] = true
	}
	if len(words) != 19 {
		t.Fatal(len(words))
	}
	for code := range 256 {
		if code <= 77 || code >= 81 && code <= 96 || words[code] {
			continue
		}
		holdRun(t, nil, []byte{byte(code)}, api.ErrCode)
		holdRun(t, []byte{81, 81, 81}, []byte{81, byte(code), 81}, api.ErrCode)
	}
	for _, lock := range []string{"\x01", "\x51\x02a", "\x51\x4b", "\x51\x4c", "\x51\x4c\x01", "\x51\x4d", "\x51\x4d\x00", "\x51\x4d\x01\x00", "\x51\x4d\xff\xffa"} {
		holdRun(t, nil, []byte(lock), api.ErrCode)
	}
}

// P7.3: what each word does to the stack; "a" lies below, and stays.
func TestWords(t *testing.T) {
	long := string(sample(520))
	for _, c := range []struct {
		word   byte
		before []string
		after  []string
	}{
		{97, nil, nil},
		{97, []string{"x"}, []string{"x"}},
		{105, []string{"x"}, nil},
		{105, []string{"y", "\x00\x01"}, []string{"y"}},
		{109, []string{"w", "y", "x"}, []string{"w"}},
		{109, []string{"", ""}, nil},
		{117, []string{"y", "x"}, []string{"y"}},
		{117, []string{""}, nil},
		{118, []string{"y", "x"}, []string{"y", "x", "x"}},
		{118, []string{""}, []string{"", ""}},
		{120, []string{"w", "y", "x"}, []string{"w", "y", "x", "y"}},
		{124, []string{"w", "y", "x"}, []string{"w", "x", "y"}},
		{130, []string{""}, []string{"", ""}},
		{130, []string{"x"}, []string{"x", "\x01"}},
		{130, []string{"\x00\x00"}, []string{"\x00\x00", "\x02"}},
		{130, []string{long[:127]}, []string{long[:127], "\x7f"}},
		{130, []string{long[:128]}, []string{long[:128], "\x80"}},
		{130, []string{long[:255]}, []string{long[:255], "\xff"}},
		{130, []string{long[:256]}, []string{long[:256], "\x00\x01"}},
		{130, []string{long[:257]}, []string{long[:257], "\x01\x01"}},
		{130, []string{long[:512]}, []string{long[:512], "\x00\x02"}},
		{130, []string{long}, []string{long, "\x08\x02"}},
		{135, []string{"x", "x"}, []string{"\x01"}},
		{135, []string{"y", "x"}, []string{""}},
		{135, []string{"", ""}, []string{"\x01"}},
		{135, []string{"", "\x00"}, []string{""}},
		{135, []string{"x", "x\x00"}, []string{""}},
		{135, []string{"\x01", "\x02"}, []string{""}},
		{135, []string{long, long}, []string{"\x01"}},
		{135, []string{long, long[:519] + "\x00"}, []string{""}},
		{136, []string{"x", "x"}, nil},
		{136, []string{"", ""}, nil},
		{168, []string{"y", "abc"}, []string{"y", "\xba\x78\x16\xbf\x8f\x01\xcf\xea\x41\x41\x40\xde\x5d\xae\x22\x23\xb0\x03\x61\xa3\x96\x17\x7a\x9c\xb4\x10\xff\x61\xf2\x00\x15\xad"}},
		{168, []string{""}, []string{sumReference("")}},
		{168, []string{long}, []string{sumReference(long)}},
		{169, []string{"y", "abc"}, []string{"y", sumReference(sumReference("abc"))[:20]}},
		{169, []string{""}, []string{sumReference(sumReference(""))[:20]}},
		{172, []string{"", ""}, []string{""}},
		{172, []string{"w", "y", "x"}, []string{"w", ""}},
	} {
		var unlock []byte
		for _, piece := range append([]string{"a"}, c.before...) {
			unlock = script.Push(unlock, []byte(piece))
		}
		holdStack(t, unlock, []byte{c.word}, api.Hash{}, append([]string{"a"}, c.after...)...)
	}
}

// P7.3: words that refuse.
func TestWordsRefuse(t *testing.T) {
	for _, c := range []struct {
		unlock, lock string
	}{
		{"\x51\x00", "\x69\x51"},
		{"\x51\x02\x00\x00", "\x69\x51"},
		{"\x51", "\x6a\x51"},
		{"", "\x6a\x51"},
		{"\x51\x51\x52", "\x88\x51"},
		{"\x51\x00\x01\x00", "\x88\x51"},
		{"\x51\x51\x51", "\xad\x51"},
		{"\x51\x00\x00", "\xad\x51"},
	} {
		holdRun(t, []byte(c.unlock), []byte(c.lock), api.ErrFalse)
	}
}

// P7.3: with as many pieces as each word needs, and with each fewer.
func TestTooFewPieces(t *testing.T) {
	for code, n := range takes {
		for have := range n {
			holdRun(t, repeated("\x51", have), []byte{code}, api.ErrStack)
			holdRun(t, repeated("\x00", have), []byte{code, 255}, api.ErrStack)
		}
		if e := script.Run(repeated("\x51", n), []byte{code}, api.Hash{}); e == api.ErrStack {
			t.Errorf("word %d with %d pieces: ErrStack", code, n)
		}
	}
}

// P7.3: a push of 520 bytes, and of one more, where it is skipped, too; but
// one that ends too early is told first.
func TestLongPushes(t *testing.T) {
	fits, tooLong := script.Push(nil, sample(520)), script.Push(nil, sample(521))
	holdRun(t, fits, []byte{81}, api.OK)
	holdRun(t, tooLong, []byte{81}, api.ErrLimit)
	holdRun(t, nil, fits, api.OK)
	holdRun(t, nil, tooLong, api.ErrLimit)
	holdRun(t, nil, joined([]byte{81, 0, 99}, fits, []byte{104}), api.OK)
	holdRun(t, nil, joined([]byte{81, 0, 99}, tooLong, []byte{104}), api.ErrLimit)
	holdRun(t, nil, tooLong[:523], api.ErrCode)
	holdRun(t, nil, joined([]byte{81, 0, 99}, tooLong[:523]), api.ErrCode)
	holdRun(t, nil, joined(repeated("\x51", 100), tooLong), api.ErrLimit)
	holdRun(t, nil, script.Push(nil, sample(1997)), api.ErrLimit)
}

// P7.3: a hundred words that are no pushes, and one more, of whatever kind:
// counted where they are skipped, too; pushes aren't counted.
func TestManyWords(t *testing.T) {
	holdRun(t, nil, joined([]byte{81}, repeated("\x61", 100)), api.OK)
	holdRun(t, nil, joined([]byte{81}, repeated("\x61", 101)), api.ErrLimit)
	holdRun(t, nil, joined([]byte{81}, repeated("\x61", 100), []byte{82}), api.OK)
	holdRun(t, nil, repeated("\x51\x75\x51\x75\x51\x75\x51\x75\x51\x75", 20), api.ErrFalse)
	holdRun(t, repeated("\x51", 90), joined(repeated("\x00\x75", 100), repeated("\x60", 10)), api.OK)
	// In a branch that isn't gone: with its begin and its end 100, and 101.
	holdRun(t, []byte{81, 0}, joined([]byte{99}, repeated("\x61", 98), []byte{104}), api.OK)
	holdRun(t, []byte{81, 0}, joined([]byte{99}, repeated("\x61", 99), []byte{104}), api.ErrLimit)
	holdRun(t, []byte{81, 0}, joined([]byte{99}, repeated("\xff", 98), []byte{104}), api.OK)
	holdRun(t, []byte{81, 0}, joined([]byte{99}, repeated("\xff", 99), []byte{104}), api.ErrLimit)
	holdRun(t, []byte{81, 0}, joined([]byte{99}, repeated("\x52", 1000), []byte{104}), api.OK)
	holdRun(t, []byte{81, 0}, joined([]byte{99}, repeated("\x63\x68", 49), []byte{104}), api.OK)
	holdRun(t, []byte{81, 0}, joined([]byte{99}, repeated("\x67", 98), []byte{104}), api.OK)
	holdRun(t, []byte{81, 0}, joined([]byte{99}, repeated("\x67", 99), []byte{104}), api.ErrLimit)
	// The limit is told ahead of what the word itself would tell.
	for _, word := range []string{"\xff", "\x6a", "\x75\x75", "\x68", "\x67", "\x63"} {
		holdRun(t, nil, joined(repeated("\x61", 100), []byte(word)), api.ErrLimit)
	}
	holdRun(t, nil, joined(repeated("\x61", 99), []byte{255}), api.ErrCode)
	holdRun(t, nil, joined(repeated("\x61", 99), []byte{106}), api.ErrFalse)
	holdRun(t, nil, joined(repeated("\x61", 99), []byte{117}), api.ErrStack)
	holdRun(t, nil, joined(repeated("\x61", 100), []byte{5}), api.ErrCode)
}

// P7.3: a hundred pieces, and one more, behind each word: both scripts have
// one stack.
func TestHighStacks(t *testing.T) {
	hundred := repeated("\x51", 100)
	holdRun(t, hundred, nil, api.OK)
	holdRun(t, hundred, []byte{97}, api.OK)
	holdRun(t, nil, hundred, api.OK)
	holdRun(t, hundred[:50], hundred[:50], api.OK)
	holdRun(t, hundred[:50], hundred[:51], api.ErrLimit)
	for _, word := range []string{"\x51", "\x00", "\x01a", "\x4c\x00", "\x76", "\x78", "\x82"} {
		holdRun(t, hundred, []byte(word), api.ErrLimit)
		holdRun(t, hundred, joined([]byte(word), []byte{117}), api.ErrLimit)
		holdRun(t, hundred[:99], joined([]byte(word), []byte{81, 135}), api.ErrLimit)
		holdRun(t, hundred[:99], joined([]byte(word), []byte{117}), api.OK)
	}
	for _, word := range []string{"\x7c", "\xa8", "\xa9", "\x75", "\x6d", "\x87", "\x88", "\x69"} {
		holdRun(t, hundred, []byte(word), api.OK)
	}
	holdRun(t, hundred, []byte{106}, api.ErrFalse)
	holdRun(t, hundred, []byte{255}, api.ErrCode)
	holdRun(t, hundred, []byte{81, 255}, api.ErrLimit)
	holdRun(t, append(bytes.Clone(hundred), 81), []byte{255}, api.ErrLimit)
	// What is skipped comes not upon the stack.
	holdRun(t, joined(hundred[:99], []byte{0}), joined([]byte{99}, hundred, []byte{104}), api.OK)
	holdRun(t, hundred, joined([]byte{100}, hundred, []byte{103, 81, 104}), api.OK)
	holdRun(t, hundred, []byte{99, 81, 81, 104}, api.ErrLimit)
}

// P7.3: branches that are gone, and that aren't.
func TestBranches(t *testing.T) {
	for _, c := range []struct {
		name, unlock, lock string
		want               []string
	}{
		{"if, gone", "\x51", "\x63\x01a\x68", []string{"a"}},
		{"if, not gone", "\x00", "\x63\x01a\x68", nil},
		{"if, not gone by noughts", "\x03\x00\x00\x00", "\x63\x01a\x68", nil},
		{"if, gone by the last byte", "\x03\x00\x00\x80", "\x63\x01a\x68", []string{"a"}},
		{"unless, gone", "\x00", "\x64\x01a\x68", []string{"a"}},
		{"unless, not gone", "\x51", "\x64\x01a\x68", nil},
		{"if else, first", "\x51", "\x63\x01a\x67\x01b\x68\x01c", []string{"a", "c"}},
		{"if else, second", "\x00", "\x63\x01a\x67\x01b\x68\x01c", []string{"b", "c"}},
		{"unless else, first", "\x00", "\x64\x01a\x67\x01b\x68", []string{"a"}},
		{"unless else, second", "\x51", "\x64\x01a\x67\x01b\x68", []string{"b"}},
		{"else thrice, if", "\x51", "\x63\x01a\x67\x01b\x67\x01c\x67\x01d\x68", []string{"a", "c"}},
		{"else thrice, not", "\x00", "\x63\x01a\x67\x01b\x67\x01c\x67\x01d\x68", []string{"b", "d"}},
		{"else decided as it began", "\x51", "\x63\x00\x00\x67\x01b\x68", []string{"", ""}},
		{"one behind the other", "\x51\x00\x51", "\x63\x01a\x68\x7c\x63\x01b\x68", []string{"\x01", "a"}},
		{"within, both gone", "\x01z\x51\x51", "\x63\x63\x01a\x67\x01b\x68\x67\x01c\x68", []string{"z", "a"}},
		{"within, outer gone", "\x01z\x00\x51", "\x63\x63\x01a\x67\x01b\x68\x67\x01c\x68", []string{"z", "b"}},
		{"within, not gone: x stays", "\x01z\x51\x00", "\x63\x63\x01a\x67\x01b\x68\x67\x01c\x68", []string{"z", "\x01", "c"}},
		{"within, unless: x stays", "\x01z\x00\x00", "\x63\x64\x01a\x67\x01b\x68\x67\x01c\x68", []string{"z", "", "c"}},
		{"within, without any x", "\x00", "\x63\x63\x64\x01a\x68\x68\x67\x01c\x68", []string{"c"}},
		{"three deep, else of each", "\x00", "\x63\x63\x67\x63\x67\x01a\x67\x68\x01a\x67\x68\x67\x01c\x68", []string{"c"}},
		{"within the other way", "\x51\x00", "\x63\x01a\x67\x63\x01b\x67\x01d\x68\x68", []string{"b"}},
		{"an end, then more", "\x51\x00", "\x63\x67\x01a\x68\x01b\x7c\x75", []string{"\x01", "b"}},
		{"nothing in it", "\x51", "\x63\x68", nil},
	} {
		t.Run(c.name, func(t *testing.T) {
			holdStack(t, []byte(c.unlock), []byte(c.lock), api.Hash{}, c.want...)
		})
	}
}

// P7.3: of words that are skipped nothing is done, whatever they are.
func TestSkipped(t *testing.T) {
	for code := range 256 {
		word := []byte{byte(code)}
		switch {
		case code <= 75:
			word = append(word, sample(code)...)
		case code == 76:
			word = append(word, 2, 1, 1)
		case code == 77:
			word = append(word, 2, 0, 1, 1)
		case code == 99 || code == 100:
			word = append(word, 104)
		case code == 103:
			word = append(word, 103)
		case code == 104:
			word = append(word, 0, 99)
		}
		holdStack(t, []byte{0}, joined([]byte{99}, word, []byte{104}), api.Hash{})
		holdStack(t, []byte{81}, joined([]byte{100}, word, []byte{104}), api.Hash{})
		holdStack(t, []byte{81}, joined([]byte{99, 103}, word, []byte{104}), api.Hash{})
		if code == 104 {
			continue
		}
		// Within one that would be gone, in one that isn't.
		holdStack(t, []byte{0}, joined([]byte{99, 99, 103}, word, []byte{104, 104}), api.Hash{})
		holdStack(t, []byte{0}, joined([]byte{99, 99}, word, []byte{104, 104}), api.Hash{})
	}
}

// P7.3: a word that is skipped must be whole.
func TestSkippedIsWhole(t *testing.T) {
	for _, rest := range []string{"\x05abcd", "\x02\x68", "\x4c", "\x4c\x05abcd", "\x4d\x05", "\x4d\x05\x00abcd"} {
		holdRun(t, []byte{81, 0}, joined([]byte{99}, []byte(rest)), api.ErrCode)
	}
	// What stands within a push begins and ends no branch.
	holdRun(t, []byte{81, 0}, []byte{99, 1, 104, 104}, api.OK)
	holdRun(t, []byte{81, 0}, []byte{99, 1, 104}, api.ErrCode)
	holdRun(t, []byte{81, 0}, []byte{99, 2, 99, 103, 104}, api.OK)
}

// P7.3: branches that never began, and that never end.
func TestBranchesApart(t *testing.T) {
	for _, lock := range []string{
		"\x67", "\x68", "\x51\x67", "\x51\x68", "\x51\x67\x68",
		"\x51\x51\x63", "\x51\x00\x63", "\x51\x51\x64", "\x51\x00\x64",
		"\x51\x51\x63\x67", "\x51\x00\x63\x67", "\x51\x51\x63\x68\x68", "\x51\x00\x63\x68\x67",
		"\x51\x51\x51\x63\x63\x68", "\x51\x00\x63\x63\x68", "\x51\x00\x63\x63\x67\x68",
	} {
		holdRun(t, nil, []byte(lock), api.ErrCode)
	}
	// At the end the branch is told ahead of the stack; an error ahead of it.
	holdRun(t, nil, []byte{0, 99}, api.ErrCode)
	holdRun(t, nil, []byte{81, 99}, api.ErrCode)
	holdRun(t, nil, []byte{81, 99, 106}, api.ErrFalse)
	holdRun(t, nil, []byte{81, 99, 117}, api.ErrStack)
	holdRun(t, nil, []byte{99}, api.ErrStack)
	holdRun(t, nil, []byte{100}, api.ErrStack)
	holdRun(t, nil, []byte{81, 99, 99, 104, 104}, api.ErrStack)
	// As many as there can be, one within the other.
	deep := joined(repeated("\x51\x63", 50), []byte{82}, repeated("\x68", 50))
	holdRun(t, nil, deep, api.OK)
	holdRun(t, nil, deep[:len(deep)-1], api.ErrCode)
	holdRun(t, []byte{81, 0}, joined(repeated("\x63", 50), repeated("\x68", 50)), api.OK)
	holdRun(t, []byte{81, 0}, joined(repeated("\x63", 50), repeated("\x68", 49)), api.ErrCode)
}

// P2, Rules: what is handed in isn't changed, spare room included, and one run
// knows nothing of another.
func TestRunIsApart(t *testing.T) {
	unlock, lock := script.Push(nil, []byte("ab"), sample(30), sample(30)), []byte("\x7c\x88\x76\x82\x75\x75\xa8\xa9\x51")
	unlockRoom, lockRoom := append(bytes.Clone(unlock), sample(50)...), append(bytes.Clone(lock), sample(50)...)
	unlockWas, lockWas := bytes.Clone(unlockRoom), bytes.Clone(lockRoom)
	for range 3 {
		holdRun(t, unlockRoom[:len(unlock)], lockRoom[:len(lock)], api.OK)
		holdRun(t, nil, []byte{81, 99}, api.ErrCode)
		holdRun(t, nil, []byte{117}, api.ErrStack)
		holdRun(t, nil, repeated("\x61", 101), api.ErrLimit)
	}
	if !bytes.Equal(unlockRoom, unlockWas) || !bytes.Equal(lockRoom, lockWas) {
		t.Error("changed what was handed in")
	}
	both := []byte("\x51\x52\x53")
	holdRun(t, both, both, api.OK)
	holdRun(t, both[:2], both[1:], api.OK)
}
