package tx

import (
	"byname/api"
	"byname/coin"
	"byname/piece"
)

const (
	wordSize = 4

	// How many Ins, and how many Outs, are read at most.
	mostRead = 200
)

// Bytes: a transaction as bytes (P10.1). Each piece is written by itself, and
// put behind: piece's own calls would copy all that is ahead, at each.
func Bytes(t api.Tx) []byte {
	b := wordBytes(t.Version)
	b = append(b, countBytes(len(t.Ins))...)
	for _, in := range t.Ins {
		b = append(b, inBytes(in)...)
	}
	b = append(b, countBytes(len(t.Outs))...)
	for _, o := range t.Outs {
		b = append(b, coin.OutBytes(o)...)
	}
	return append(b, wordBytes(t.Until)...)
}

func inBytes(in api.In) []byte {
	b := piece.Text(coin.RefBytes(in.Ref), in.Unlock)
	return append(b, wordBytes(in.Order)...)
}

func countBytes(n int) []byte { return piece.Count(nil, uint64(n)) }

func wordBytes(n uint32) []byte { return piece.Fixed(nil, uint64(n), wordSize) }

// Read: the one that stands next (P10.1).
func Read(r *piece.Reader) api.Tx {
	t := api.Tx{Version: wordRead(r), Ins: insRead(r), Outs: outsRead(r), Until: wordRead(r)}
	if r.Err() != api.OK {
		return api.Tx{}
	}
	return t
}

func insRead(r *piece.Reader) []api.In {
	var l []api.In
	for range r.Count(mostRead) {
		l = append(l, inRead(r))
	}
	return l
}

func inRead(r *piece.Reader) api.In {
	return api.In{Ref: coin.RefRead(r), Unlock: r.Text(api.MaxScript), Order: wordRead(r)}
}

func outsRead(r *piece.Reader) []api.Out {
	var l []api.Out
	for range r.Count(mostRead) {
		l = append(l, coin.OutRead(r))
	}
	return l
}

func wordRead(r *piece.Reader) uint32 { return uint32(r.Fixed(wordSize)) }

// Parse: the one of bytes (P10.1).
func Parse(b []byte) (api.Tx, api.Errno) {
	r := piece.New(b)
	t := Read(r)
	if r.Err() != api.OK {
		return api.Tx{}, r.Err()
	}
	if r.Left() > 0 {
		return api.Tx{}, api.ErrForm
	}
	return t, api.OK
}
