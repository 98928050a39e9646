package index_test

import (
	"bytes"
	"crypto/sha256"
	"encoding/binary"
	"encoding/hex"
	"slices"
	"strings"

	"sacristy/api"
)

// The words of the chapter, told once more, the plainest way.

func twinNamed(id string) bool {
	return len(id) == 64 && strings.Trim(id, "0123456789abcdef") == ""
}

func twinPut(ids []string) ([]byte, api.Errno) {
	if len(ids) > 512 {
		return nil, api.ErrTooMany
	}
	for _, id := range ids {
		if !twinNamed(id) {
			return nil, api.ErrArg
		}
	}
	for at, id := range ids {
		if slices.Contains(ids[:at], id) {
			return nil, api.ErrThere
		}
	}
	return sealed(twinTold(ids)), api.OK
}

// twinTold is what stands ahead of the sum.
func twinTold(ids []string) []byte {
	var b []byte
	for c := range 256 {
		two := hex.EncodeToString([]byte{byte(c)})
		n := 0
		for _, id := range ids {
			if id[:2] <= two {
				n++
			}
		}
		b = binary.BigEndian.AppendUint16(b, uint16(n))
	}
	for _, id := range slices.Sorted(slices.Values(ids)) {
		b = append(b, said(id)...)
		b = binary.BigEndian.AppendUint16(b, uint16(slices.Index(ids, id)))
	}
	return b
}

// twinIds are the names of an index in the order of their places: bytes are an index, if they are that of these.
func twinIds(b []byte) ([]string, bool) {
	if len(b) < 544 || (len(b)-544)%34 != 0 || len(b) > 544+512*34 {
		return nil, false
	}
	ids := make([]string, (len(b)-544)/34)
	for at := range ids {
		row := b[512+34*at:]
		place := int(binary.BigEndian.Uint16(row[32:]))
		if place >= len(ids) {
			return nil, false
		}
		ids[place] = hex.EncodeToString(row[:32])
	}
	again, e := twinPut(ids)
	return ids, e == api.OK && bytes.Equal(again, b)
}

// sealed is bytes with their sum behind.
func sealed(b []byte) []byte {
	sum := sha256.Sum256(b)
	return append(slices.Clip(b), sum[:]...)
}

// said is what a name's digits say.
func said(id string) []byte {
	b, err := hex.DecodeString(id)
	if err != nil {
		panic(err)
	}
	return b
}
