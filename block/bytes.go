package block

import (
	"slices"

	"byname/api"
	"byname/piece"
	"byname/tx"
)

const (
	wordSize = 4

	// How many transactions are read at most.
	mostRead = 100
)

// HeadBytes: a head as bytes (P11.1).
func HeadBytes(h api.Head) []byte {
	return slices.Concat(wordBytes(h.Version), h.Prev[:], h.Root[:], wordBytes(h.Time), wordBytes(h.Bits), wordBytes(h.Nonce))
}

func wordBytes(n uint32) []byte { return piece.Fixed(nil, uint64(n), wordSize) }

// HeadParse: the head of bytes (P11.1).
func HeadParse(b []byte) (api.Head, api.Errno) {
	r := piece.New(b)
	h := headRead(r)
	if e := faultBehind(r); e != api.OK {
		return api.Head{}, e
	}
	return h, api.OK
}

func headRead(r *piece.Reader) api.Head {
	next := r.Fixed
	return api.Head{
		Version: uint32(next(wordSize)),
		Prev:    hashRead(r),
		Root:    hashRead(r),
		Time:    uint32(next(wordSize)),
		Bits:    uint32(next(wordSize)),
		Nonce:   uint32(next(wordSize)),
	}
}

func hashRead(r *piece.Reader) api.Hash {
	var h api.Hash
	copy(h[:], r.Raw(api.HashSize))
	return h
}

// faultBehind is why what was read can't be all that there was, and right.
func faultBehind(r *piece.Reader) api.Errno {
	if r.Err() == api.OK && r.Left() > 0 {
		return api.ErrForm
	}
	return r.Err()
}

// Bytes: a block as bytes (P11.3).
func Bytes(b api.Block) []byte {
	l := piece.Count(HeadBytes(b.Head), uint64(len(b.Txs)))
	for _, t := range b.Txs {
		l = append(l, tx.Bytes(t)...)
	}
	return l
}

// Parse: the block of bytes (P11.3).
func Parse(b []byte) (api.Block, api.Errno) {
	r := piece.New(b)
	whole := api.Block{Head: headRead(r), Txs: txsRead(r)}
	if e := faultBehind(r); e != api.OK {
		return api.Block{}, e
	}
	return whole, api.OK
}

func txsRead(r *piece.Reader) []api.Tx {
	var l []api.Tx
	for range r.Count(mostRead) {
		l = append(l, tx.Read(r))
	}
	return l
}
