package bif_test

import (
	"cmp"
	"math/big"
	"strings"
	"testing"

	"troupe/api"
	"troupe/tree"
)

// rising are terms of all kinds, rising.
func rising(t *testing.T) []api.Term {
	t.Helper()
	return terms(t,
		least, "-1152921504606846977", "-1", "0", "1", "2", "1152921504606846976", most,
		"'A'", "a", "'a b'", "aa", "b", "'\\xff'",
		"#r0", "#r1", "#r1152921504606846975",
		"#p0", "#p1", "#p1152921504606846975",
		"{}", "{1}", "{a}", "{1,2}", "{1,3}", "{[],1}", "{0,0,0}",
		"[]",
		"[1|2]", "[1|a]", "[1]", "[1,1]", "[1,2|0]", "[1,2]", "[1|<<>>]", "[a]", "[[]]",
		"<<>>", "<<0>>", "<<0,0>>", "<<0,1>>", "<<1>>", "<<255>>",
	)
}

func TestComparing(t *testing.T) {
	all, truth := rising(t), map[bool]api.Term{true: atom("true"), false: atom("false")}
	for i, a := range all {
		for j, b := range all {
			c := cmp.Compare(i, j)
			if x := answers(t, "compare", a, twin(b)); !same(x, num(int64(c))) {
				t.Errorf("compare %d %d: %+v", i, j, x)
			}
			if x := answers(t, "eq", a, twin(b)); !same(x, truth[c == 0]) {
				t.Errorf("eq %d %d: %+v", i, j, x)
			}
			if x := answers(t, "lt", a, twin(b)); !same(x, truth[c < 0]) {
				t.Errorf("lt %d %d: %+v", i, j, x)
			}
		}
	}
}

func TestComparingText(t *testing.T) {
	says(t, "-1", "compare", "1", "a")
	says(t, "1", "compare", "[1]", "[1|2]")
	says(t, "0", "compare", "{1,[2|<<3>>]}", "{1,[2|<<3>>]}")
	says(t, "true", "eq", "{1,[2|<<3>>]}", "{1,[2|<<3>>]}")
	says(t, "false", "eq", "1", "<<1>>")
	says(t, "true", "lt", "9", "a")
	says(t, "false", "lt", "a", "9")
	says(t, "false", "lt", "a", "a")
}

func TestKinds(t *testing.T) {
	kinds := map[string][]int{"is_int": {api.Int}, "is_atom": {api.Atom}, "is_pid": {api.Pid}, "is_ref": {api.Ref}, "is_tuple": {api.Tuple}, "is_list": {api.Nil, api.List}, "is_bin": {api.Bin}}
	for name, of := range kinds {
		for _, x := range rising(t) {
			want := atom("false")
			for _, kind := range of {
				if x.Kind == kind {
					want = atom("true")
				}
			}
			if got := answers(t, name, x); !same(got, want) {
				t.Errorf("%s of %+v: %+v", name, x, got)
			}
		}
	}
	says(t, "true", "is_list", "[]")
	says(t, "true", "is_list", "[1|2]")
	says(t, "false", "is_atom", "[]")
	says(t, "false", "is_tuple", "[1]")
}

func TestHash(t *testing.T) {
	cases := map[string]string{
		"a":          "177670", // 33 * 5381 + 97
		"1":          "177622",
		"ok":         "5863679", // 33 * (33 * 5381 + 111) + 107
		"[]":         "5863005",
		"{}":         "5864093",
		"'A'":        "193421652", // the quotes too
		"#p1":        "193418857",
		"{ok,[1,2]}": "2064787594",
		"<<1,255>>":  "1155812146",
	}
	for text, want := range cases {
		says(t, want, "hash", text)
	}
}

// hashed is the hash of a text as one number without an end, of which the remainder is taken once.
func hashed(text string) int64 {
	h, factor := big.NewInt(5381), big.NewInt(33)
	for _, b := range []byte(text) {
		h.Mul(h, factor).Add(h, big.NewInt(int64(b)))
	}
	return h.Mod(h, big.NewInt(1<<31)).Int64()
}

func TestHashOfTermsOfEveryKind(t *testing.T) {
	all := append(rising(t), atom(strings.Repeat("z", 255)), atom(strings.Repeat("\xff", 255)), nest(num(1), api.MaxDepth-1), bin(make([]byte, 3000)...), list(many(2000)...))
	all = append(all, terms(t, "{1,[2|<<3,4>>],'it\\'s',#r7,#p8,[],{}}", "'\\x00\\\\'")...)
	for _, x := range all {
		text, err := tree.Write(x)
		if err != nil {
			t.Fatal(err)
		}
		got := answers(t, "hash", x)
		if want := hashed(text); !same(got, num(want)) || got.N < 0 || got.N > 1<<31-1 {
			t.Errorf("%.50s: %d, not %d", text, got.N, want)
		}
	}
}

func TestHashOfTheGreatestText(t *testing.T) {
	items := make([]api.Term, api.MaxTerms-1)
	for i := range items {
		items[i] = atom(strings.Repeat("\xff", 255))
	}
	a, b := answers(t, "hash", tup(items...)), answers(t, "hash", tup(items...))
	if !same(a, b) || a.Kind != api.Int || a.N < 0 || a.N > 1<<31-1 {
		t.Errorf("%+v, %+v", a, b)
	}
}
