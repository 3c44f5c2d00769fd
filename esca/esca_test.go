package esca

import (
	"math"
	"slices"
	"strings"
	"testing"

	"polyptych/api"
)

// act is an action, written short.
func act(kind int, r rune, par ...int) api.Action {
	return api.Action{Kind: kind, Rune: r, Par: par}
}

// signs are the actions of a text's runes.
func signs(s string) []api.Action {
	var out []api.Action
	for _, r := range s {
		out = append(out, act(api.APrint, r))
	}
	return out
}

func sameActions(a, b []api.Action) bool {
	return slices.EqualFunc(a, b, func(a, b api.Action) bool {
		return a.Kind == b.Kind && a.Rune == b.Rune && slices.Equal(a.Par, b.Par)
	})
}

func sameEsc(a, b api.Esc) bool {
	return a.Mode == b.Mode && a.Utf == b.Utf && slices.Equal(a.Par, b.Par) &&
		a.Num == b.Num && a.Priv == b.Priv && a.Skip == b.Skip
}

func check(t *testing.T, s api.Esc, b string, end api.Esc, want []api.Action) {
	t.Helper()
	gotEnd, got := Feed(s, []byte(b))
	if !sameEsc(gotEnd, end) || !sameActions(got, want) {
		t.Errorf("%+v %q: got %+v %v, want %+v %v", s, b, gotEnd, got, end, want)
	}
}

// span says what all bytes from one to another do.
type span struct {
	from, to int
	end      api.Esc
	kind     int // the kind of the action that tells the byte, or 0
}

// told is the rune that a byte alone tells.
func told(b int) rune {
	if b >= 128 {
		return 0xfffd
	}
	return rune(b)
}

// checkSpans holds a Step of every byte against the spans; a later span holds ahead of an earlier one.
func checkSpans(t *testing.T, s api.Esc, spans []span) {
	t.Helper()
	for b := range 256 {
		var at span
		for _, x := range spans {
			if b >= x.from && b <= x.to {
				at = x
			}
		}
		var want []api.Action
		if at.kind != 0 {
			want = []api.Action{act(at.kind, told(b))}
		}
		end, got := Step(s, byte(b))
		if !sameEsc(end, at.end) || !sameActions(got, want) {
			t.Errorf("%+v byte %d: got %+v %v, want %+v %v", s, b, end, got, at.end, want)
		}
	}
}

// 2.1: each byte where nothing is begun.
func TestGround(t *testing.T) {
	spans := []span{
		{0, 255, api.Esc{}, 0},
		{7, 13, api.Esc{}, api.AControl},
		{27, 27, api.Esc{Mode: api.EEscape}, 0},
		{32, 126, api.Esc{}, api.APrint},
		{128, 255, api.Esc{}, api.APrint},
	}
	for b := 192; b <= 247; b++ {
		utf := api.Utf{Need: 1, Min: 128, Got: b - 192}
		if b >= 240 {
			utf = api.Utf{Need: 3, Min: 65536, Got: b - 240}
		} else if b >= 224 {
			utf = api.Utf{Need: 2, Min: 2048, Got: b - 224}
		}
		spans = append(spans, span{b, b, api.Esc{Utf: utf}, 0})
	}
	checkSpans(t, api.Esc{}, spans)
}

// 2.1: runes of several bytes, and those that are not printed.
func TestGroundRunes(t *testing.T) {
	check(t, api.Esc{}, "aé€😀", api.Esc{}, signs("aé€😀"))
	for r := rune(0); r <= 0x200; r++ {
		var want []api.Action
		switch {
		case r >= 7 && r <= 13:
			want = []api.Action{act(api.AControl, r)}
		case r >= 32 && r <= 126, r >= 160:
			want = signs(string(r))
		}
		end := api.Esc{}
		if r == 27 {
			end.Mode = api.EEscape
		}
		check(t, api.Esc{}, string(r), end, want)
	}
	check(t, api.Esc{}, "\xc2\x7e", api.Esc{}, signs("\ufffd~"))
	check(t, api.Esc{}, "\xe2\x82", api.Esc{Utf: api.Utf{Need: 1, Min: 2048, Got: 130}}, nil)
	check(t, api.Esc{}, "\xe2\xc3\xa9", api.Esc{}, signs("\ufffdé"))
	check(t, api.Esc{}, "\xc0\x9b[J", api.Esc{}, signs("\ufffd[J"))
	check(t, api.Esc{}, "\xed\xa0\x80\xf4\x90\x80\x80", api.Esc{}, signs("\ufffd\ufffd"))
}

// 2.1: a control byte ends what is begun, and that comes first.
func TestGroundEnds(t *testing.T) {
	for _, begun := range []string{"\xc3", "\xe2\x82", "\xf0\x9f\x98"} {
		for b := range 128 {
			if b >= 32 && b != 127 {
				continue
			}
			want := signs("\ufffd")
			if b >= 7 && b <= 13 {
				want = append(want, act(api.AControl, rune(b)))
			}
			end := api.Esc{}
			if b == 27 {
				end.Mode = api.EEscape
			}
			check(t, api.Esc{}, begun+string([]byte{byte(b)}), end, want)
		}
	}
}

// 2.1: each byte behind esc.
func TestEscape(t *testing.T) {
	spans := []span{
		{0, 26, api.Esc{Mode: api.EEscape}, 0},
		{7, 13, api.Esc{Mode: api.EEscape}, api.AControl},
		{24, 24, api.Esc{}, 0},
		{26, 26, api.Esc{}, 0},
		{27, 31, api.Esc{Mode: api.EEscape}, 0},
		{32, 47, api.Esc{Mode: api.ESkip}, 0},
		{48, 126, api.Esc{}, api.AEscape},
		{127, 255, api.Esc{}, 0},
		{91, 91, api.Esc{Mode: api.ECsi, Num: -1}, 0},
	}
	for _, b := range "]PX^_" {
		spans = append(spans, span{int(b), int(b), api.Esc{Mode: api.EString}, 0})
	}
	checkSpans(t, api.Esc{Mode: api.EEscape}, spans)
}

// 2.1: a '[' begins afresh, whatever was there.
func TestEscapeBeginsAfresh(t *testing.T) {
	s := api.Esc{Mode: api.EEscape, Par: []int{1, 2}, Num: 3, Priv: true, Skip: true}
	check(t, s, "[", api.Esc{Mode: api.ECsi, Num: -1}, nil)
	check(t, api.Esc{}, "\x1b[1;2!\x1b[m", api.Esc{}, []api.Action{act(api.ACsi, 'm')})
	check(t, api.Esc{}, "\x1b[?1;2\x1b[m", api.Esc{}, []api.Action{act(api.ACsi, 'm')})
}

// checkCsi holds every byte at s, with Skip and without, against the chapter; par are the numbers that s ends with.
func checkCsi(t *testing.T, s api.Esc, par ...int) {
	t.Helper()
	kind := api.ACsi
	if s.Priv {
		kind = api.APriv
	}
	skip := s
	skip.Skip = true
	for b := range 256 {
		if b >= '0' && b <= '9' || b == ';' || b == '?' {
			continue
		}
		end, want := s, []api.Action(nil)
		switch {
		case b >= 7 && b <= 13:
			want = []api.Action{act(api.AControl, rune(b))}
		case b == 24 || b == 26:
			end = api.Esc{}
		case b == 27:
			end = api.Esc{Mode: api.EEscape}
		case b >= 32 && b <= 63:
			end = skip
		case b >= 64 && b <= 126:
			end, want = api.Esc{}, []api.Action{act(kind, rune(b), par...)}
		}
		check(t, s, string([]byte{byte(b)}), end, want)
		if b >= 64 && b <= 126 {
			want = nil
		}
		if end.Mode == api.ECsi {
			end = skip
		}
		check(t, skip, string([]byte{byte(b)}), end, want)
	}
}

// 2.1: each byte within a control sequence, but those of parameters.
func TestCsi(t *testing.T) {
	checkCsi(t, api.Esc{Mode: api.ECsi, Num: -1})
	checkCsi(t, api.Esc{Mode: api.ECsi, Num: -1, Priv: true})
	checkCsi(t, api.Esc{Mode: api.ECsi, Num: 0}, 0)
	checkCsi(t, api.Esc{Mode: api.ECsi, Num: 25, Priv: true}, 25)
	checkCsi(t, api.Esc{Mode: api.ECsi, Par: []int{-1}, Num: -1}, -1, -1)
	checkCsi(t, api.Esc{Mode: api.ECsi, Par: []int{1, 2}, Num: 3, Priv: true}, 1, 2, 3)
}

// 2.1: numbers, and parameters that were not told.
func TestCsiNumbers(t *testing.T) {
	for b, par := range map[string][]int{
		"":                        nil,
		"0":                       {0},
		"2":                       {2},
		"0123456789":              {65535},
		"1234":                    {1234},
		"9;8":                     {9, 8},
		";":                       {-1, -1},
		"5;":                      {5, -1},
		";5":                      {-1, 5},
		";;":                      {-1, -1, -1},
		"0;00;007":                {0, 0, 7},
		"6553;6554":               {6553, 6554},
		"65534;65535;65536;65539": {65534, 65535, 65535, 65535},
		"655350;99999":            {65535, 65535},
		strings.Repeat("9", 400):  {65535},
	} {
		check(t, api.Esc{}, "\x1b["+b+"m", api.Esc{}, []api.Action{act(api.ACsi, 'm', par...)})
		check(t, api.Esc{}, "\x1b[?"+b+"m", api.Esc{}, []api.Action{act(api.APriv, 'm', par...)})
		check(t, api.Esc{}, "\x1b[!"+b+"m", api.Esc{}, nil)
	}
	at := api.Esc{Mode: api.ECsi, Par: []int{1}, Num: 2}
	check(t, at, "3", api.Esc{Mode: api.ECsi, Par: []int{1}, Num: 23}, nil)
	check(t, at, ";", api.Esc{Mode: api.ECsi, Par: []int{1, 2}, Num: -1}, nil)
	check(t, at, ";7", api.Esc{Mode: api.ECsi, Par: []int{1, 2}, Num: 7}, nil)
	check(t, api.Esc{}, "\x1b[5\n6\xff\x7f\x017C", api.Esc{}, []api.Action{act(api.AControl, 10), act(api.ACsi, 'C', 567)})
}

// 2.1: at most 16 parameters; further ones are let go.
func TestCsiMany(t *testing.T) {
	par := make([]int, api.MaxPar)
	for n := range 40 {
		var told []string
		for i := range n {
			told = append(told, string(rune('1'+i%9)))
			if i < len(par) {
				par[i] = 1 + i%9
			}
		}
		b := strings.Join(told, ";")
		want := []api.Action{act(api.ACsi, 'm', par[:min(n, api.MaxPar)]...)}
		check(t, api.Esc{}, "\x1b["+b+"m", api.Esc{}, want)
	}
	none := slices.Repeat([]int{-1}, api.MaxPar)
	check(t, api.Esc{}, "\x1b["+strings.Repeat(";", 15)+"m", api.Esc{}, []api.Action{act(api.ACsi, 'm', none...)})
	check(t, api.Esc{}, "\x1b["+strings.Repeat(";", 16)+"m", api.Esc{}, []api.Action{act(api.ACsi, 'm', none...)})
	check(t, api.Esc{}, "\x1b["+strings.Repeat(";", 17)+"8", api.Esc{Mode: api.ECsi, Par: none, Num: 8}, nil)
}

// 2.1: a '?' counts ahead of all parameters, and once.
func TestCsiPrivate(t *testing.T) {
	fresh := api.Esc{Mode: api.ECsi, Num: -1}
	priv := api.Esc{Mode: api.ECsi, Num: -1, Priv: true}
	check(t, fresh, "?", priv, nil)
	check(t, priv, "?", api.Esc{Mode: api.ECsi, Num: -1, Priv: true, Skip: true}, nil)
	check(t, fresh, "0?", api.Esc{Mode: api.ECsi, Num: 0, Skip: true}, nil)
	check(t, fresh, ";?", api.Esc{Mode: api.ECsi, Par: []int{-1}, Num: -1, Skip: true}, nil)
	check(t, fresh, "4;?", api.Esc{Mode: api.ECsi, Par: []int{4}, Num: -1, Skip: true}, nil)
	check(t, fresh, "!?", api.Esc{Mode: api.ECsi, Num: -1, Priv: true, Skip: true}, nil)
	check(t, api.Esc{}, "\x1b[?7;25l", api.Esc{}, []api.Action{act(api.APriv, 'l', 7, 25)})
	check(t, api.Esc{}, "\x1b[!?25hx\x1b[1?hy\x1b[??hz", api.Esc{}, signs("xyz"))
}

// 2.1: each byte within a string, at its end, and behind an intermediate.
func TestPassedBy(t *testing.T) {
	ground, escape := api.Esc{}, api.Esc{Mode: api.EEscape}
	str, end, skip := api.Esc{Mode: api.EString}, api.Esc{Mode: api.EEnd}, api.Esc{Mode: api.ESkip}
	checkSpans(t, str, []span{
		{0, 255, str, 0}, {7, 7, ground, 0}, {24, 24, ground, 0}, {26, 26, ground, 0}, {27, 27, end, 0},
	})
	checkSpans(t, end, []span{{0, 255, str, 0}, {92, 92, ground, 0}, {27, 27, end, 0}})
	checkSpans(t, skip, []span{
		{0, 255, skip, 0}, {48, 126, ground, 0}, {24, 24, ground, 0}, {26, 26, ground, 0}, {27, 27, escape, 0},
	})
}

// 2.1: only EGround touches Utf.
func TestUtfStays(t *testing.T) {
	utf := api.Utf{Need: 1, Min: 128, Got: 3}
	for _, mode := range []int{api.EEscape, api.ECsi, api.EString, api.ESkip, api.EEnd} {
		for b := range 256 {
			if end, _ := Step(api.Esc{Mode: mode, Utf: utf}, byte(b)); end.Utf != utf {
				t.Errorf("mode %d byte %d: %+v", mode, b, end.Utf)
			}
		}
	}
}

// texts are all texts of up to n bytes that mean something somewhere.
func texts(n int) []string {
	all, last := []string{""}, []string{""}
	for range n {
		var next []string
		for _, s := range last {
			for _, b := range []byte("\x00\x07\x18\x1b !05;?@[\\]\x7f\x9b\xc3\xff") {
				next = append(next, s+string([]byte{b}))
			}
		}
		all, last = append(all, next...), next
	}
	return all
}

// steps takes all Steps of b.
func steps(s api.Esc, b string) (api.Esc, []api.Action) {
	var all []api.Action
	for i := range len(b) {
		next, actions := Step(s, b[i])
		s, all = next, append(all, actions...)
	}
	return s, all
}

// 2.2, 2.3: Feed is all Steps, and pieces are the same as all at once.
func TestFeedPieces(t *testing.T) {
	list := texts(4)
	for _, tail := range texts(2) {
		list = append(list, "\x1b[?12;"+tail, "\x1b]0;"+tail, "\xf0\x9f\x98"+tail)
	}
	for _, b := range list {
		end, want := steps(api.Esc{}, b)
		check(t, api.Esc{}, b, end, want)
		for k := range len(b) {
			mid, one := Feed(api.Esc{}, []byte(b[:k]))
			last, two := Feed(mid, []byte(b[k:]))
			if !sameEsc(last, end) || !sameActions(append(one, two...), want) {
				t.Errorf("%q at %d", b, k)
			}
		}
	}
}

// 2.2: Feed goes on from where it is.
func TestFeedFromWithin(t *testing.T) {
	s := api.Esc{Mode: api.ECsi, Par: []int{4}, Num: 2, Priv: true}
	check(t, s, "", s, nil)
	check(t, s, "1hé\x1bM\r", api.Esc{}, []api.Action{
		act(api.APriv, 'h', 4, 21), act(api.APrint, 'é'), act(api.AEscape, 'M'), act(api.AControl, 13),
	})
}

// 2.3: what is none is passed by, and signs are told again behind it.
func TestAnyBytes(t *testing.T) {
	for _, b := range texts(4) {
		_, actions := Feed(api.Esc{}, []byte(b+"\x1b\\\x18z"))
		if n := len(actions); n == 0 || !sameActions(actions[n-1:], signs("z")) {
			t.Errorf("%q: %v", b, actions)
		}
		for _, a := range actions {
			if a.Kind < api.APrint || a.Kind > api.APriv || len(a.Par) > api.MaxPar {
				t.Errorf("%q: %v", b, a)
			}
		}
	}
}

// 2.4: places that no Steps make do no harm either.
func TestForeign(t *testing.T) {
	far := []int{math.MinInt, -2, -1, 0, 1, 99, math.MaxInt}
	for mode := -2; mode <= 8; mode++ {
		for _, n := range far {
			for b := range 256 {
				s := api.Esc{Mode: mode, Utf: api.Utf{Need: n, Min: n, Got: n}, Par: make([]int, 40), Num: n}
				end, actions := Feed(s, []byte{byte(b), byte(b)})
				if len(end.Par) > 40 || len(actions) > 4 {
					t.Errorf("%+v byte %d: %+v %v", s, b, end, actions)
				}
			}
		}
	}
	for _, n := range []int{6554, 65536, math.MaxInt/10 + 1, math.MaxInt} {
		check(t, api.Esc{Mode: api.ECsi, Num: n}, "9m", api.Esc{}, []api.Action{act(api.ACsi, 'm', 65535)})
	}
	s := api.Esc{Mode: 99, Par: []int{1}, Num: 2}
	check(t, s, "a\x1b\x18", s, nil)
}

// What is handed in is neither changed nor shared, its spare room neither.
func TestOwnMemory(t *testing.T) {
	for b := range 256 {
		room := []int{1, 2, 3, 4}
		in := api.Esc{Mode: api.ECsi, Par: room[:2], Num: 9}
		for _, call := range []func() (api.Esc, []api.Action){
			func() (api.Esc, []api.Action) { return Step(in, byte(b)) },
			func() (api.Esc, []api.Action) { return Feed(in, []byte{byte(b), ';'}) },
			func() (api.Esc, []api.Action) { return Feed(in, nil) },
		} {
			end, actions := call()
			lists := [][]int{end.Par}
			for _, a := range actions {
				lists = append(lists, a.Par)
			}
			for i, l := range lists {
				l = l[:cap(l)]
				for k := range l {
					l[k] = 70 + i
				}
			}
			if !slices.Equal(room, []int{1, 2, 3, 4}) {
				t.Fatalf("byte %d: %v", b, room)
			}
		}
	}
	bytes := []byte("\x1b[1;2m\xc3")
	if Feed(api.Esc{}, bytes); string(bytes) != "\x1b[1;2m\xc3" {
		t.Errorf("%q", bytes)
	}
}

// No two answers, and no two lists of one answer, share memory.
func TestApart(t *testing.T) {
	at, _ := Feed(api.Esc{}, []byte("\x1b[1;2;3"))
	one, _ := Step(at, ';')
	two, _ := Step(at, ';')
	one.Par[0], one.Par[2] = 99, 99
	if !slices.Equal(two.Par, []int{1, 2, 3}) || !slices.Equal(at.Par, []int{1, 2}) {
		t.Error(two.Par, at.Par)
	}
	end, all := Feed(api.Esc{}, []byte("\x1b[1;2m\x1b[3;4m\x1b[5;6"))
	all[0].Par[0], all[0].Par[1] = 99, 99
	if !slices.Equal(all[1].Par, []int{3, 4}) || !slices.Equal(end.Par, []int{5}) {
		t.Error(all, end)
	}
}
