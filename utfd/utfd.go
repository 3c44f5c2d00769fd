// Package utfd makes runes of bytes, one byte at a time, and bytes of runes: see doc/01-utfd.md.
package utfd

import (
	"unicode/utf8"

	"polyptych/api"
)

// Step answers what is begun behind byte b, and the runes that end with it.
func Step(s api.Utf, b byte) (api.Utf, []rune) {
	if !begun(s) {
		return start(b)
	}
	if isNext(b) {
		return goOn(s, b)
	}
	next, runes := start(b)
	return next, append([]rune{utf8.RuneError}, runes...)
}

// End answers what is told of a rune that was begun and gets no more bytes.
func End(s api.Utf) []rune {
	if !begun(s) {
		return nil
	}
	return []rune{utf8.RuneError}
}

// Put answers r's bytes; what is no rune is put as U+FFFD, which AppendRune sees to.
func Put(r rune) []byte {
	return utf8.AppendRune(nil, r)
}

func begun(s api.Utf) bool {
	return s.Need > 0
}

func isNext(b byte) bool {
	return b >= 128 && b <= 191
}

// start takes b with nothing begun.
func start(b byte) (api.Utf, []rune) {
	switch {
	case b <= 127:
		return api.Utf{}, []rune{rune(b)}
	case b >= 192 && b <= 223:
		return api.Utf{Need: 1, Min: 128, Got: int(b & 31)}, nil
	case b >= 224 && b <= 239:
		return api.Utf{Need: 2, Min: 2048, Got: int(b & 15)}, nil
	case b >= 240 && b <= 247:
		return api.Utf{Need: 3, Min: 65536, Got: int(b & 7)}, nil
	}
	return api.Utf{}, []rune{utf8.RuneError}
}

// goOn takes b as one more byte of the rune that is begun.
func goOn(s api.Utf, b byte) (api.Utf, []rune) {
	got := s.Got*64 + int(b&63)
	if s.Need > 1 {
		return api.Utf{Need: s.Need - 1, Min: s.Min, Got: got}, nil
	}
	return api.Utf{}, []rune{ended(got, s.Min)}
}

// ended holds got to its bounds while it is still an int: as a rune it could wrap round into them.
func ended(got, least int) rune {
	surrogate := got >= 55296 && got <= 57343
	if got < least || got > utf8.MaxRune || surrogate {
		return utf8.RuneError
	}
	return rune(got)
}
