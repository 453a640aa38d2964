package flows_test

import (
	"regexp"
	"slices"
	"strconv"
	"strings"
	"testing"

	"stampways/api"
	"stampways/flows"
)

func TestParse(t *testing.T) {
	for _, c := range []struct {
		text string
		want []api.Flow
	}{
		{"", nil},
		{"0>1\n", []api.Flow{plain(0, 1)}},
		{"0>3 via 1,2 not 4\n3>0\n", []api.Flow{flow(0, 3, []int{1, 2}, []int{4}), plain(3, 0)}},
		{"0>3 not 4,5,6\n", []api.Flow{flow(0, 3, nil, []int{4, 5, 6})}},
		{"0>3 via 7\n", []api.Flow{flow(0, 3, []int{7}, nil)}},
		{"9999>1000 via 999,10 not 0\n", []api.Flow{flow(9999, 1000, []int{999, 10}, []int{0})}},
		// of whatever switches: B1 is not asked
		{"2>2 via 2,2,0 not 2,0,0\n", []api.Flow{flow(2, 2, []int{2, 2, 0}, []int{2, 0, 0})}},
	} {
		got, f := flows.Parse(c.text)
		if f != (api.Fault{}) || !same(got, c.want) {
			t.Errorf("%q: %v %v, not %v", c.text, got, f, c.want)
		}
	}
}

// wrongLines are no lines, each with its end, if it has one.
var wrongLines = []string{
	"\n", " \n", "0\n", ">\n", "0>\n", ">1\n", "01\n", "0>1", "0>1 via 2", "0>1\r\n", "0>1\x00\n", "\xff>1\n",
	"00>1\n", "0>00\n", "01>2\n", "0>01\n", "0000>1\n", "12345>1\n", "0>12345\n", "00001>1\n", "99999999999999999999>1\n",
	"-1>0\n", "+1>0\n", "0>-1\n", "1_0>2\n", "0x1>2\n", "1.0>2\n", "a>b\n", "/>1\n", ":>1\n", "٣>1\n", "0>１\n",
	"0 >1\n", "0> 1\n", " 0>1\n", "0>1 \n", "\t0>1\n", "0>>1\n", "0>1>2\n", "0<1\n", "0-1\n", "0>1;\n",
	"0>1 via\n", "0>1 via \n", "0>1 via 2,\n", "0>1 via ,2\n", "0>1 via 2,,3\n", "0>1 via 2, 3\n", "0>1 via 2 3\n", "0>1 via ,\n",
	"0>1 via  2\n", "0>1  via 2\n", "0>1via 2\n", "0>1 via2\n", "0>1 Via 2\n", "0>1 VIA 2\n", "0>1 via 2 \n", "0>1\tvia 2\n",
	"0>1 via 02\n", "0>1 via 12345\n", "0>1 via -2\n", "0>1 via a\n", "0>1 via 2>3\n", "0>1 via 2 via 3\n", "0>1 via via 2\n",
	"0>1 not\n", "0>1 not \n", "0>1 not 2,\n", "0>1 not ,2\n", "0>1 not 2,,3\n", "0>1 not 02\n", "0>1 not 12345\n", "0>1 not -2\n",
	"0>1 not 2 \n", "0>1 not 2 not 3\n", "0>1 not 2 via 3\n", "0>1 not not 2\n", "0>1 no 2\n", "0>1 Not 2\n", "0>1 not2\n",
	"0>1 via not 2\n", "0>1 via  not 2\n", "0>1 via 2 not\n", "0>1 via 2 not \n", "0>1 via 2not 3\n", "0>1 via 2,not 3\n", "0>1 via 2  not 3\n",
	" via 2\n", "0 via 2>1\n", " not 3\n", "0 not 3>1\n", "0> via 2\n", "0>1,2\n", "0,1>2\n",
}

func TestParseWrongLines(t *testing.T) {
	for _, line := range wrongLines {
		for _, ahead := range []string{"", "0>1\n", "0>1 via 2 not 3\n10>11\n"} {
			behind := []string{""}
			if strings.HasSuffix(line, "\n") {
				behind = append(behind, "0>1\n", "x\n", "x")
			}
			for _, more := range behind {
				got, f := flows.Parse(ahead + line + more)
				if want := (api.Fault{Err: api.ErrForm, At: len(ahead)}); f != want || len(got) > 0 {
					t.Errorf("%q: %v %v, not %v", ahead+line+more, got, f, want)
				}
			}
		}
	}
}

func TestParseHowMuch(t *testing.T) {
	line := "0>1\n"
	full := strings.Repeat(line, api.MaxText/len(line))
	got, f := flows.Parse(full)
	if f != (api.Fault{}) || !same(got, slices.Repeat([]api.Flow{plain(0, 1)}, 500)) {
		t.Errorf("as much as may be: %d flows, %v", len(got), f)
	}
	for _, s := range []string{full + "\n", full + line, "0>10\n" + full, strings.Repeat("x", api.MaxText+1), strings.Repeat("\n", 1<<20)} {
		if got, f := flows.Parse(s); f != (api.Fault{Err: api.ErrMuch}) || len(got) > 0 {
			t.Errorf("%d bytes: %d flows, %v", len(s), len(got), f)
		}
	}
	for _, s := range []string{full[1:], full[:len(full)-1] + "x"} {
		if _, f := flows.Parse(s); f.Err != api.ErrForm {
			t.Errorf("%d bytes, and wrong: %v", len(s), f)
		}
	}
	long := "0>1 via 2" + strings.Repeat(",3", (api.MaxText-10)/2) + "\n"
	if got, f := flows.Parse(long); f != (api.Fault{}) || len(got) != 1 || len(got[0].Via) != 996 {
		t.Errorf("one line of %d bytes: %v", len(long), f)
	}
}

// aLine is B2's line said over again.
var aLine = regexp.MustCompile(`^(0|[1-9][0-9]{0,3})>(0|[1-9][0-9]{0,3})( via (0|[1-9][0-9]{0,3})(,(0|[1-9][0-9]{0,3}))*)?( not (0|[1-9][0-9]{0,3})(,(0|[1-9][0-9]{0,3}))*)?$`)

// plainFault says where the first line of s is that is none.
func plainFault(s string) api.Fault {
	for at := 0; at < len(s); {
		end := strings.IndexByte(s[at:], '\n')
		if end < 0 || !aLine.MatchString(s[at:at+end]) {
			return api.Fault{Err: api.ErrForm, At: at}
		}
		at += end + 1
	}
	return api.Fault{}
}

// TestParseOfAllSmallTexts makes every text of up to six pieces, and of five more behind a beginning, and holds them against aLine.
func TestParseOfAllSmallTexts(t *testing.T) {
	pieces := []string{"0", "12", ">", " via ", " not ", ",", "\n", " "}
	var walk func(s string, left int)
	walk = func(s string, left int) {
		l, f := flows.Parse(s)
		if want := plainFault(s); f != want || f.Err != api.OK && len(l) > 0 || f.Err == api.OK && len(l) != strings.Count(s, "\n") {
			t.Fatalf("%q: %v %v, not %v", s, l, f, want)
		}
		if f.Err == api.OK {
			if again := written(l); again != s {
				t.Fatalf("%q is read as %q", s, again)
			}
		}
		if left == 0 {
			return
		}
		for _, p := range pieces {
			walk(s+p, left-1)
		}
	}
	walk("", 6)
	walk("0>1", 5)
	walk("0>1 via 2", 5)
}

// written is the text of flows, of whatever switches.
func written(l []api.Flow) string {
	s := ""
	for _, f := range l {
		s += strconv.Itoa(f.From) + ">" + strconv.Itoa(f.To)
		for i, x := range f.Via {
			s += []string{" via ", ","}[min(i, 1)] + strconv.Itoa(x)
		}
		for i, x := range f.Not {
			s += []string{" not ", ","}[min(i, 1)] + strconv.Itoa(x)
		}
		s += "\n"
	}
	return s
}

func TestPrint(t *testing.T) {
	for _, c := range []struct {
		l    []api.Flow
		n    int
		want string
	}{
		{nil, 0, ""},
		{[]api.Flow{plain(0, 1)}, 2, "0>1\n"},
		{[]api.Flow{flow(0, 3, []int{1, 2}, []int{4}), plain(3, 0)}, 5, "0>3 via 1,2 not 4\n3>0\n"},
		{[]api.Flow{flow(0, 3, []int{2, 1}, nil)}, 5, "0>3 via 2,1\n"},
		{[]api.Flow{flow(3, 0, nil, []int{2, 1, 4})}, 5, "3>0 not 2,1,4\n"},
		{[]api.Flow{flow(9999, 10, []int{100, 0}, []int{1000})}, 10000, "9999>10 via 100,0 not 1000\n"},
		{slices.Repeat([]api.Flow{plain(1, 0)}, api.MaxFlows), 2, strings.Repeat("1>0\n", api.MaxFlows)},
	} {
		got, f := flows.Print(c.l, c.n)
		if got != c.want || f != (api.Fault{}) {
			t.Errorf("%v: %q %v, not %q", c.l, got, f, c.want)
		}
	}
}

func TestPrintOfWrongFlows(t *testing.T) {
	for _, c := range []struct {
		l    []api.Flow
		n    int
		want api.Fault
	}{
		{make([]api.Flow, api.MaxFlows+1), 5, api.Fault{Err: api.ErrMany}},
		{[]api.Flow{plain(0, 1), plain(0, 5)}, 5, api.Fault{Err: api.ErrNone, At: 1}},
		{[]api.Flow{plain(0, 1), plain(1, 0), plain(1, 1)}, 5, api.Fault{Err: api.ErrFit, At: 2}},
		{[]api.Flow{flow(0, 1, []int{2, 2}, nil)}, 5, api.Fault{Err: api.ErrName}},
	} {
		if got, f := flows.Print(c.l, c.n); got != "" || f != c.want {
			t.Errorf("%v: %q %v, not %v", c.l, got, f, c.want)
		}
	}
}

// TestWhatIsWrittenIsRead prints all small flows of a net of four, and parses them.
func TestWhatIsWrittenIsRead(t *testing.T) {
	all := lists(2, 3)
	told := 0
	for from := range 4 {
		for to := range 4 {
			for _, via := range all {
				for _, not := range all {
					l := []api.Flow{flow(from, to, via, not), plain(1, 2)}
					text, f := flows.Print(l, 4)
					if f.Err != api.OK {
						continue
					}
					told++
					if got, f := flows.Parse(text); f != (api.Fault{}) || !same(got, l) {
						t.Fatalf("%v is written %q, and read %v %v", l, text, got, f)
					}
				}
			}
		}
	}
	if told == 0 {
		t.Error("nothing was written")
	}
}

func FuzzParse(f *testing.F) {
	for _, line := range wrongLines {
		f.Add(line)
	}
	f.Add("0>3 via 1,2 not 4\n3>0\n")
	f.Fuzz(func(t *testing.T, s string) {
		l, got := flows.Parse(s)
		want := plainFault(s)
		if len(s) > api.MaxText {
			want = api.Fault{Err: api.ErrMuch}
		}
		if got != want || got.Err != api.OK && len(l) > 0 || got.Err == api.OK && written(l) != s {
			t.Errorf("%q: %v %v, not %v", s, l, got, want)
		}
	})
}
