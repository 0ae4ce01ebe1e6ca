package bif_test

import (
	"strings"
	"testing"

	"troupe/api"
)

// P8.2: tuples, lists, binaries, atoms

func TestSize(t *testing.T) {
	for arg, want := range map[string]string{"{}": "0", "{1}": "1", "{a,{b,c},[d]}": "3", "<<>>": "0", "<<7>>": "1", "<<1,2,3>>": "3"} {
		says(t, want, "size", arg)
	}
	for _, arg := range []string{"0", "a", "#r0", "#p0", "[]", "[1]", "[1|2]"} {
		raises(t, badarg, "size", arg)
	}
}

func TestElement(t *testing.T) {
	says(t, "a", "element", "1", "{a}")
	says(t, "a", "element", "1", "{a,[b|c],{d}}")
	says(t, "[b|c]", "element", "2", "{a,[b|c],{d}}")
	says(t, "{d}", "element", "3", "{a,[b|c],{d}}")
	for _, at := range []string{"0", "-1", "4", "4294967297", least, most} {
		raises(t, badarg, "element", at, "{a,[b|c],{d}}")
	}
	for _, at := range []string{"0", "1", "-1"} {
		raises(t, badarg, "element", at, "{}")
	}
	raises(t, badarg, "element", "{a}", "1")
	raises(t, badarg, "element", "1", "[a]")
}

func TestSetElement(t *testing.T) {
	says(t, "{x}", "setelement", "1", "{a}", "x")
	says(t, "{x,b,c}", "setelement", "1", "{a,b,c}", "x")
	says(t, "{a,b,[1|2]}", "setelement", "3", "{a,b,c}", "[1|2]")
	says(t, "{a,{a,b}}", "setelement", "2", "{a,b}", "{a,b}")
	for _, at := range []string{"0", "-1", "4", "4294967297", least, most} {
		raises(t, badarg, "setelement", at, "{a,b,c}", "x")
	}
	raises(t, badarg, "setelement", "1", "{}", "x")
	raises(t, badarg, "setelement", "0", "{}", "x")
	raises(t, badarg, "setelement", "1", "[a]", "x")
}

func TestListsAndTuples(t *testing.T) {
	for arg, want := range map[string]string{"[]": "{}", "[1]": "{1}", "[1,a,[b|c],[]]": "{1,a,[b|c],[]}", "[{}]": "{{}}"} {
		says(t, want, "list_to_tuple", arg)
		says(t, arg, "tuple_to_list", want)
	}
	for _, arg := range []string{"[1|2]", "[1,2|{}]", "{1}", "<<1>>", "a", "1"} {
		raises(t, badarg, "list_to_tuple", arg)
	}
	for _, arg := range []string{"[]", "[1]", "[1|2]", "<<1>>", "a", "1"} {
		raises(t, badarg, "tuple_to_list", arg)
	}
}

func TestAppend(t *testing.T) {
	says(t, "[1,2]", "append", "[1]", "[2]")
	says(t, "[1,2,3,4]", "append", "[1,2]", "[3,4]")
	says(t, "[1,2|3]", "append", "[1]", "[2|3]")
	says(t, "[1,2]", "append", "[1,2]", "[]")
	says(t, "[[]]", "append", "[[]]", "[]")
	for _, rest := range []string{"2", "a", "#r1", "#p1", "{}", "{1,2}", "<<>>", "<<1>>"} {
		says(t, "[1,[2]|"+rest+"]", "append", "[1,[2]]", rest)
	}
	for _, rest := range []string{"2", "a", "#r1", "#p1", "{1}", "[]", "[1]", "[1|2]", "<<1>>"} {
		says(t, rest, "append", "[]", rest)
		raises(t, badarg, "append", "[1|2]", rest)
		raises(t, badarg, "append", "a", rest)
	}
}

func TestReverse(t *testing.T) {
	for arg, want := range map[string]string{"[]": "[]", "[1]": "[1]", "[1,2]": "[2,1]", "[1,[2,3],{4,5},<<6,7>>]": "[<<6,7>>,{4,5},[2,3],1]", "[1,[2|3]]": "[[2|3],1]"} {
		says(t, want, "reverse", arg)
		says(t, arg, "reverse", want)
	}
	raises(t, badarg, "reverse", "[1|2]")
	raises(t, badarg, "reverse", "{1}")
	raises(t, badarg, "reverse", "<<1>>")
}

func TestLength(t *testing.T) {
	for arg, want := range map[string]string{"[]": "0", "[1]": "1", "[[1,2,3]]": "1", "[1,2,3]": "3", "[[1|2],[]]": "2"} {
		says(t, want, "length", arg)
	}
	raises(t, badarg, "length", "[1|2]")
	raises(t, badarg, "length", "{1}")
	raises(t, badarg, "length", "<<1>>")
}

func TestMember(t *testing.T) {
	for _, x := range []string{"0", "a", "#r1", "#p1", "{}", "{1,[2]}", "[]", "[1]", "[1|2]", "<<>>", "<<1>>"} {
		says(t, "true", "member", x, "["+x+"]")
		says(t, "true", "member", x, "[x,y,"+x+"]")
		says(t, "true", "member", x, "[x,"+x+",y,"+x+"]")
		says(t, "false", "member", x, "[]")
		says(t, "false", "member", x, "[x,y,["+x+"],{"+x+"}]")
		raises(t, badarg, "member", x, "[1,2|3]")
	}
	says(t, "false", "member", "1", "[2,<<1>>,a,#r1,#p1,[1],{1}]")
	raises(t, badarg, "member", "1", "[1|2]") // also where it is met ahead of the Rest
	raises(t, badarg, "member", "1", "{1}")
}

func TestNth(t *testing.T) {
	says(t, "a", "nth", "1", "[a]")
	says(t, "a", "nth", "1", "[a,[b|c],{d}]")
	says(t, "[b|c]", "nth", "2", "[a,[b|c],{d}]")
	says(t, "{d}", "nth", "3", "[a,[b|c],{d}]")
	for _, at := range []string{"0", "-1", "4", "4294967297", least, most} {
		raises(t, badarg, "nth", at, "[a,[b|c],{d}]")
	}
	for _, at := range []string{"0", "1", "-1"} {
		raises(t, badarg, "nth", at, "[]")
	}
	raises(t, badarg, "nth", "1", "[a|b]")
	raises(t, badarg, "nth", "1", "{a}")
}

func TestListsAndBinaries(t *testing.T) {
	for arg, want := range map[string]string{"[]": "<<>>", "[0]": "<<0>>", "[255]": "<<255>>", "[0,127,128,255,0]": "<<0,127,128,255,0>>"} {
		says(t, want, "list_to_bin", arg)
		says(t, arg, "bin_to_list", want)
	}
	for _, arg := range []string{"[256]", "[-1]", "[1,256]", "[-1,1]", "[1,257,1]", "[" + least + "]", "[" + most + "]", "[a]", "[1,<<1>>]", "[[1]]", "[1|2]", "{1}", "<<1>>", "1"} {
		raises(t, badarg, "list_to_bin", arg)
	}
	for _, arg := range []string{"[1]", "[]", "{1}", "a", "1"} {
		raises(t, badarg, "bin_to_list", arg)
	}
}

func TestBinAt(t *testing.T) {
	for at, want := range map[string]string{"0": "255", "1": "0", "2": "7"} {
		says(t, want, "bin_at", "<<255,0,7>>", at)
	}
	for _, at := range []string{"-1", "3", "4294967296", least, most} {
		raises(t, badarg, "bin_at", "<<255,0,7>>", at)
	}
	raises(t, badarg, "bin_at", "<<>>", "0")
	raises(t, badarg, "bin_at", "0", "<<1>>")
	raises(t, badarg, "bin_at", "{1}", "0")
}

func TestBinPart(t *testing.T) {
	const whole = "<<1,2,3,4>>"
	cases := []struct{ from, n, want string }{
		{"0", "4", whole}, {"0", "0", "<<>>"}, {"4", "0", "<<>>"}, {"3", "0", "<<>>"}, {"0", "1", "<<1>>"}, {"3", "1", "<<4>>"}, {"1", "2", "<<2,3>>"}, {"1", "3", "<<2,3,4>>"}, {"2", "1", "<<3>>"},
	}
	for _, c := range cases {
		says(t, c.want, "bin_part", whole, c.from, c.n)
	}
	says(t, "<<>>", "bin_part", "<<>>", "0", "0")
	wrong := [][2]string{
		{"-1", "0"}, {"-1", "1"}, {"-1", "4"}, {"5", "0"}, {"5", "1"}, {"5", "-1"}, {"0", "5"}, {"4", "1"}, {"1", "4"}, {"0", "-1"}, {"4", "-1"}, {"2", "-2"},
		{most, "0"}, {most, "1"}, {most, most}, {"0", most}, {"1", most}, {least, "0"}, {least, least}, {"0", least}, {most, least}, {least, most},
		{"4294967296", "0"}, {"0", "4294967296"},
	}
	for _, w := range wrong {
		raises(t, badarg, "bin_part", whole, w[0], w[1])
	}
	raises(t, badarg, "bin_part", "<<>>", "0", "1")
	raises(t, badarg, "bin_part", "<<>>", "1", "0")
	raises(t, badarg, "bin_part", "[1,2]", "0", "1")
}

func TestBinJoin(t *testing.T) {
	says(t, "<<1,2,3>>", "bin_join", "<<1,2>>", "<<3>>")
	says(t, "<<1>>", "bin_join", "<<1>>", "<<>>")
	says(t, "<<1>>", "bin_join", "<<>>", "<<1>>")
	says(t, "<<>>", "bin_join", "<<>>", "<<>>")
	says(t, "<<1,1>>", "bin_join", "<<1>>", "<<1>>")
	raises(t, badarg, "bin_join", "<<1>>", "[1]")
	raises(t, badarg, "bin_join", "[1]", "<<1>>")
}

func TestSum(t *testing.T) {
	for arg, want := range map[string]string{
		"[]": "0", "[5]": "5", "[1,-2,3]": "2", "[" + most + ",1]": least, "[" + least + ",-1]": most, "[" + least + "," + least + "]": "0",
		"[" + most + "," + most + "]": "-2", "[" + most + "," + most + "," + most + "]": "9223372036854775805", "[" + least + "]": least,
	} {
		says(t, want, "sum", arg)
	}
	for _, arg := range []string{"[1|2]", "[1,2|a]", "[a]", "[1,a]", "[a,1]", "[[1]]", "[<<1>>]", "[#p1]", "1", "a", "{1}", "{}", "<<1>>", "#r1", "#p1"} {
		raises(t, badarith, "sum", arg)
	}
}

func TestSeq(t *testing.T) {
	cases := []struct{ a, b, want string }{
		{"1", "3", "[1,2,3]"}, {"0", "0", "[0]"}, {"-2", "1", "[-2,-1,0,1]"}, {"1", "0", "[]"}, {"5", "-5", "[]"}, {most, least, "[]"}, {"1000", "1", "[]"},
		{most, most, "[" + most + "]"}, {least, least, "[" + least + "]"}, {"9223372036854775806", most, "[9223372036854775806," + most + "]"}, {least, "-9223372036854775807", "[" + least + ",-9223372036854775807]"},
	}
	for _, c := range cases {
		says(t, c.want, "seq", c.a, c.b)
	}
	for _, from := range []int64{1, 0, -500, -999, 1 << 40, 1<<63 - 1000, -1 << 63} {
		x := answers(t, "seq", num(from), num(from+999))
		if x.Kind != api.List || len(x.Items) != 1000 || len(x.Rest) != 0 {
			t.Fatalf("%d: %d items", from, len(x.Items))
		}
		for i, item := range x.Items {
			if !same(item, num(from+int64(i))) {
				t.Fatalf("%d: item %d is %+v", from, i, item)
			}
		}
	}
	for _, w := range [][2]string{{"1", "1001"}, {"0", "1000"}, {"-1000", "0"}, {"-500", "500"}, {"0", most}, {least, most}, {least, "0"}, {"-1", most}, {least, "-9223372036854774808"}, {"9223372036854774807", most}} {
		raises(t, badarg, "seq", w[0], w[1])
	}
}

func TestAtomToList(t *testing.T) {
	for arg, want := range map[string]string{"a": "[97]", "ok": "[111,107]", "'it\\'s'": "[105,116,39,115]", "'\\x00\\xff'": "[0,255]"} {
		says(t, want, "atom_to_list", arg)
	}
	long := strings.Repeat("é", 127) + "z" // 255 bytes
	x := answers(t, "atom_to_list", atom(long))
	if x.Kind != api.List || len(x.Items) != 255 || len(x.Rest) != 0 {
		t.Fatalf("%d items", len(x.Items))
	}
	for i, item := range x.Items {
		if !same(item, num(int64(long[i]))) {
			t.Fatalf("byte %d is %+v", i, item)
		}
	}
	for _, arg := range []string{"1", "[]", "[97]", "<<97>>", "{a}", "#r1", "#p1"} {
		raises(t, badarg, "atom_to_list", arg)
	}
}
