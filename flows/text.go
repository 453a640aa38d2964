package flows

import (
	"strconv"
	"strings"

	"stampways/api"
)

// What stands between the parts of a line. No number holds any of it, so that a line can be cut there.
const (
	goesTo  = ">"
	byWay   = " via "
	notOver = " not "
	between = ","
	lineEnd = "\n"
)

// maxDigits is how many digits a number of a text has at most.
const maxDigits = 4

// Parse reads a text's flows; whether a net has their switches it does not ask.
func Parse(s string) ([]api.Flow, api.Fault) {
	if len(s) > api.MaxText {
		return nil, api.Fault{Err: api.ErrMuch}
	}
	var l []api.Flow
	for at := 0; at < len(s); {
		line, _, ended := strings.Cut(s[at:], lineEnd)
		f, ok := readLine(line)
		if !ok || !ended {
			return nil, api.Fault{Err: api.ErrForm, At: at}
		}
		l = append(l, f)
		at += len(line) + len(lineEnd)
	}
	return l, api.Fault{}
}

// Print writes the text of flows with which nothing is wrong in a net of n switches.
func Print(l []api.Flow, n int) (string, api.Fault) {
	if fault := Wrong(l, n); fault.Err != api.OK {
		return "", fault
	}
	var b strings.Builder
	for _, f := range l {
		b.WriteString(strconv.Itoa(f.From))
		b.WriteString(goesTo)
		b.WriteString(strconv.Itoa(f.To))
		writeList(&b, byWay, f.Via)
		writeList(&b, notOver, f.Not)
		b.WriteString(lineEnd)
	}
	return b.String(), api.Fault{}
}

// readLine reads a line without its end. It cuts at the word that comes last first: a word that is out of order,
// or stands there twice, is then left within a part, where it is no number.
func readLine(line string) (api.Flow, bool) {
	line, not, hasNot := strings.Cut(line, notOver)
	line, via, hasVia := strings.Cut(line, byWay)
	from, to, _ := strings.Cut(line, goesTo)
	var f api.Flow
	var ok [4]bool
	f.From, ok[0] = readNumber(from)
	f.To, ok[1] = readNumber(to)
	f.Via, ok[2] = readList(via, hasVia)
	f.Not, ok[3] = readList(not, hasNot)
	return f, ok == [4]bool{true, true, true, true}
}

// readList reads numbers; a list that is not there at all has none, but one that is there has some.
func readList(s string, there bool) ([]int, bool) {
	if !there {
		return nil, true
	}
	var list []int
	for _, part := range strings.Split(s, between) {
		x, ok := readNumber(part)
		if !ok {
			return nil, false
		}
		list = append(list, x)
	}
	return list, true
}

func readNumber(s string) (int, bool) {
	if len(s) < 1 || len(s) > maxDigits || len(s) > 1 && s[0] == '0' {
		return 0, false
	}
	x := 0
	for i := range len(s) {
		if s[i] < '0' || s[i] > '9' {
			return 0, false
		}
		x = 10*x + int(s[i]-'0')
	}
	return x, true
}

func writeList(b *strings.Builder, word string, list []int) {
	for i, s := range list {
		if i == 0 {
			b.WriteString(word)
		} else {
			b.WriteString(between)
		}
		b.WriteString(strconv.Itoa(s))
	}
}
