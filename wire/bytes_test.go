package wire_test

import (
	"bytes"
	"slices"
	"testing"

	"stampways/api"
	"stampways/wire"
)

// plainSum says E2's sum over again, with numbers that have room for what goes over.
func plainSum(b []byte) byte {
	s := 0
	for _, c := range b {
		s *= 2
		if s >= 256 {
			s = s - 256 + 1
		}
		s = (s + int(c)) % 256
	}
	return byte(s)
}

// summed is what is given, and the sum of it; the room behind b is left alone.
func summed(b ...byte) []byte { return append(slices.Clone(b), plainSum(b)) }

// plainBytes says over again how an order is written, be it wrong or not.
func plainBytes(o api.Order) []byte {
	b := []byte{byte(o.Kind), byte(o.Number / 65536), byte(o.Number / 256 % 256), byte(o.Number % 256), byte(o.Version / 256), byte(o.Version % 256)}
	if o.Kind == 1 {
		b = append(b, byte(len(o.Rules)))
		for _, r := range o.Rules {
			b = append(b, byte(r.Flow), byte(r.Next))
		}
	}
	if o.Kind == 2 {
		b = append(b, byte(len(o.Flows)))
		for _, f := range o.Flows {
			b = append(b, byte(f))
		}
	}
	return summed(b...)
}

// fullAdd has as many rules as there may be.
func fullAdd() api.Order {
	o := add(99999, 999)
	for i := range api.Cap {
		o.Rules = append(o.Rules, rule(999, (7*i)%12, i%8))
	}
	return o
}

// someOrders have nothing wrong, and no lists but those of their kinds.
func someOrders() []api.Order {
	return []api.Order{
		drop(1, 1), drop(100000, 1000), drop(65536, 256), drop(255, 255),
		add(7, 2), add(1, 1, rule(1, 0, 0)), add(70000, 2, rule(2, 1, 3), rule(2, 11, 7)), add(7, 300, rule(300, 5, 1), rule(300, 5, 1)), fullAdd(),
		stamp(7, 2), stamp(100000, 1, 0), stamp(7, 2, 0, 3, 11), stamp(256, 1000, allFlows()...),
	}
}

func TestBytes(t *testing.T) {
	for _, c := range []struct {
		what string
		o    api.Order
		want []byte
	}{
		// Worked out by hand: 3, 6, 12, 25, 50, 101.
		{"a drop", drop(1, 1), []byte{3, 0, 0, 1, 0, 1, 101}},
		{"high ones first", drop(100000, 1000), []byte{3, 0x01, 0x86, 0xa0, 0x03, 0xe8, 21}},
		{"no rules", add(7, 2), []byte{1, 0, 0, 7, 0, 2, 0, 124}},
		{"two rules", add(70000, 2, rule(2, 1, 3), rule(2, 11, 7)), []byte{1, 0x01, 0x11, 0x70, 0, 2, 2, 1, 3, 11, 7, 224}},
		{"rules as they stand", add(7, 2, rule(2, 11, 7), rule(2, 1, 3)), summed(1, 0, 0, 7, 0, 2, 2, 11, 7, 1, 3)},
		{"a rule twice", add(7, 2, rule(2, 1, 3), rule(2, 1, 3)), summed(1, 0, 0, 7, 0, 2, 2, 1, 3, 1, 3)},
		{"no flows", stamp(7, 2), []byte{2, 0, 0, 7, 0, 2, 0, 188}},
		{"flows", stamp(7, 2, 0, 3, 11), []byte{2, 0, 0, 7, 0, 2, 3, 0, 3, 11, 13}},
		{"as many flows as there may be", stamp(7, 2, allFlows()...), summed(2, 0, 0, 7, 0, 2, 12, 0, 1, 2, 3, 4, 5, 6, 7, 8, 9, 10, 11)},
		{"both of a drop are left out", with(drop(1, 1), []api.Rule{rule(1, 1, 1)}, []int{1}), []byte{3, 0, 0, 1, 0, 1, 101}},
		{"rules of a stamp are left out", with(stamp(7, 2), []api.Rule{rule(2, 1, 1)}, nil), []byte{2, 0, 0, 7, 0, 2, 0, 188}},
		{"flows of rules are left out", with(add(7, 2), nil, []int{1}), []byte{1, 0, 0, 7, 0, 2, 0, 124}},
	} {
		if got, err := wire.Bytes(c.o); err != api.OK || !bytes.Equal(got, c.want) {
			t.Errorf("%s: %v %v, not %v", c.what, got, err, c.want)
		}
	}
}

func TestAnOrderOfOneRuleHasTenBytes(t *testing.T) {
	if got, err := wire.Bytes(add(1, 1, rule(1, 0, 1))); err != api.OK || len(got) != 10 {
		t.Errorf("%v %v", got, err)
	}
}

// TestBytesOfAllNumbers goes through all numbers and versions, for what stands high and what low.
func TestBytesOfAllNumbers(t *testing.T) {
	for number := 1; number <= api.MaxNumber; number++ {
		o := drop(number, 1+number%api.MaxVersion)
		b, err := wire.Bytes(o)
		if err != api.OK || !bytes.Equal(b, plainBytes(o)) {
			t.Fatalf("%v: %v %v, not %v", o, b, err, plainBytes(o))
		}
		if got, err := wire.Parse(b); err != api.OK || !same(got, o) {
			t.Fatalf("%v is read as %v %v", o, got, err)
		}
	}
}

func TestWhatIsWrittenIsRead(t *testing.T) {
	for _, o := range someOrders() {
		b, err := wire.Bytes(o)
		if err != api.OK || !bytes.Equal(b, plainBytes(o)) {
			t.Errorf("%v: %v %v, not %v", o, b, err, plainBytes(o))
		}
		if got, err := wire.Parse(b); err != api.OK || !same(got, o) {
			t.Errorf("%v is read as %v %v", o, got, err)
		}
	}
	draw := drawn(8)
	for range 20000 {
		o := drawnOrder(draw)
		b, err := wire.Bytes(o)
		if want := plainWrong(o); err != want || want != api.OK && len(b) > 0 {
			t.Fatalf("%v: %v %v, not %v", o, b, err, want)
		}
		if err != api.OK {
			continue
		}
		if o.Kind != api.OrderAdd {
			o.Rules = nil
		}
		if o.Kind != api.OrderStamp {
			o.Flows = nil
		}
		if got, err := wire.Parse(b); err != api.OK || !same(got, o) || !bytes.Equal(b, plainBytes(o)) {
			t.Fatalf("%v is written %v, and read as %v %v", o, b, got, err)
		}
	}
}

// TestParseFindsOneByteThatIsAnother puts every other byte at every place.
func TestParseFindsOneByteThatIsAnother(t *testing.T) {
	for _, o := range someOrders() {
		b := plainBytes(o)
		for at, was := range b {
			for c := range 256 {
				b[at] = byte(c)
				if got, err := wire.Parse(b); b[at] != was && (err != api.ErrForm || !same(got, api.Order{})) {
					t.Fatalf("%v, with %d at %d: %v %v", o, c, at, got, err)
				}
			}
			b[at] = was
		}
	}
}

// TestParseOfTooFewAndTooMany cuts orders off, and lengthens them, with the sum put right again.
func TestParseOfTooFewAndTooMany(t *testing.T) {
	refused := func(b []byte) {
		t.Helper()
		if got, err := wire.Parse(b); err != api.ErrForm || !same(got, api.Order{}) {
			t.Errorf("%v: %v %v", b, got, err)
		}
	}
	for _, o := range someOrders() {
		whole := plainBytes(o)
		body := whole[:len(whole)-1]
		for k := range len(whole) {
			refused(whole[:k])
		}
		refused(append(slices.Clone(whole), 0))
		refused(summed(whole...))
		refused(summed(summed(whole...)...))
		for k := range len(body) {
			refused(summed(body[:k]...))
		}
	}
}

func TestParse(t *testing.T) {
	flows13 := append([]byte{2, 0, 0, 1, 0, 1, 13}, make([]byte, 13)...)
	rules17 := append([]byte{1, 0, 0, 1, 0, 1, 17}, make([]byte, 34)...)
	rules255 := append([]byte{1, 0, 0, 1, 0, 1, 255}, make([]byte, 510)...)
	for _, c := range []struct {
		what string
		b    []byte
		want api.Errno
	}{
		{"a kind that there is not", summed(9, 0, 0, 1, 0, 1), api.ErrKind},
		{"kind 0", summed(0, 0, 0, 1, 0, 1), api.ErrKind},
		{"kind 4", summed(4, 0, 0, 1, 0, 1), api.ErrKind},
		{"kind 255", summed(255, 0, 0, 1, 0, 1), api.ErrKind},
		{"a kind that there is not, and no number", summed(9, 0, 0, 0, 0, 1), api.ErrRange},
		{"a kind that there is not, and a count", summed(9, 0, 0, 1, 0, 1, 0), api.ErrForm},
		{"a kind that there is not, and a wrong sum", append(summed(9, 0, 0, 1, 0, 1)[:6], 0), api.ErrForm},
		{"a kind that there is not, too few", summed(9, 0, 0, 1, 0), api.ErrForm},

		{"only noughts, six", make([]byte, 6), api.ErrForm},
		{"only noughts, seven", make([]byte, 7), api.ErrRange},
		{"only noughts, eight", make([]byte, 8), api.ErrForm},

		{"a drop with a byte more", summed(3, 0, 0, 1, 0, 1, 0), api.ErrForm},
		{"rules without a count", summed(1, 0, 0, 1, 0, 1), api.ErrForm},
		{"flows without a count", summed(2, 0, 0, 1, 0, 1), api.ErrForm},
		{"half a rule", summed(1, 0, 0, 1, 0, 1, 1, 2), api.ErrForm},
		{"a rule and a half", summed(1, 0, 0, 1, 0, 1, 1, 2, 3, 4), api.ErrForm},
		{"a rule too few", summed(1, 0, 0, 1, 0, 1, 2, 2, 3), api.ErrForm},
		{"a rule more than counted", summed(1, 0, 0, 1, 0, 1, 0, 2, 3), api.ErrForm},
		{"a flow too few", summed(2, 0, 0, 1, 0, 1, 2, 2), api.ErrForm},
		{"a flow more than counted", summed(2, 0, 0, 1, 0, 1, 0, 2), api.ErrForm},
		{"two bytes each flow", summed(2, 0, 0, 1, 0, 1, 1, 2, 3), api.ErrForm},

		{"number 0", summed(2, 0, 0, 0, 0, 1, 0), api.ErrRange},
		{"number too great", summed(3, 1, 134, 161, 0, 1), api.ErrRange},
		{"the greatest number of three bytes", summed(3, 255, 255, 255, 0, 1), api.ErrRange},
		{"version 0", summed(3, 0, 0, 1, 0, 0), api.ErrRange},
		{"version too great", summed(3, 0, 0, 1, 3, 233), api.ErrRange},
		{"the greatest version of two bytes", summed(1, 0, 0, 1, 255, 255, 1, 0, 0), api.ErrRange},
		{"a rule's flow too great", summed(1, 0, 0, 1, 0, 1, 1, 12, 0), api.ErrRange},
		{"a rule's next too great", summed(1, 0, 0, 1, 0, 1, 1, 0, 8), api.ErrRange},
		{"a flow too great", summed(2, 0, 0, 1, 0, 1, 1, 12), api.ErrRange},
		{"falling flows", summed(2, 0, 0, 1, 0, 1, 2, 5, 4), api.ErrRange},
		{"a flow twice", summed(2, 0, 0, 1, 0, 1, 2, 5, 5), api.ErrRange},
		{"too many rules", summed(rules17...), api.ErrMany},
		{"far too many rules", summed(rules255...), api.ErrMany},
		{"too many flows", summed(flows13...), api.ErrMany},
		{"too many flows, one too few", summed(flows13[:19]...), api.ErrForm},

		{"form ahead of range", append(summed(2, 0, 0, 0, 0, 1, 0), 0), api.ErrForm},
		{"far too much", make([]byte, 1<<20), api.ErrForm},
	} {
		if got, err := wire.Parse(c.b); err != c.want || !same(got, api.Order{}) {
			t.Errorf("%s: %v %v, not %v", c.what, got, err, c.want)
		}
	}
}

// plainParse says E2's second half over again: it is so, if the order that it tells would be written so.
func plainParse(b []byte) (api.Order, api.Errno) {
	if len(b) < 7 {
		return api.Order{}, api.ErrForm
	}
	o := ofKind(int(b[0]), int(b[1])*65536+int(b[2])*256+int(b[3]), int(b[4])*256+int(b[5]))
	for i := 7; o.Kind == 1 && i+2 < len(b); i += 2 {
		o.Rules = append(o.Rules, rule(o.Version, int(b[i]), int(b[i+1])))
	}
	for i := 7; o.Kind == 2 && i+1 < len(b); i++ {
		o.Flows = append(o.Flows, int(b[i]))
	}
	if len(o.Rules) > 255 || len(o.Flows) > 255 || !bytes.Equal(b, plainBytes(o)) {
		return api.Order{}, api.ErrForm
	}
	if err := plainWrong(o); err != api.OK {
		return api.Order{}, err
	}
	return o, api.OK
}

// TestParseOfDrawnBytes holds Parse against E2, with sums that are mostly right.
func TestParseOfDrawnBytes(t *testing.T) {
	draw := drawn(9)
	var told [api.ErrBusy + 1]int
	for range 200000 {
		b := []byte{byte(draw(5)), byte(draw(2)), byte(draw(256)), byte(draw(256)), byte(draw(4)), byte(draw(256))}[:min(6, 3+draw(20))]
		for range draw(6) {
			b = append(b, byte(draw(5)))
		}
		if draw(8) > 0 {
			b = summed(b...)
		}
		want, wantErr := plainParse(b)
		got, err := wire.Parse(b)
		if err != wantErr || !same(got, want) {
			t.Fatalf("%v: %v %v, not %v %v", b, got, err, want, wantErr)
		}
		told[err]++
	}
	for _, err := range []api.Errno{api.OK, api.ErrForm, api.ErrRange, api.ErrKind} {
		if told[err] == 0 {
			t.Errorf("%v was never told", err)
		}
	}
}

func FuzzParse(f *testing.F) {
	for _, o := range someOrders() {
		b := plainBytes(o)
		f.Add(b, true)
		f.Add(b[:len(b)-1], false)
	}
	f.Fuzz(func(t *testing.T, b []byte, whole bool) {
		if !whole {
			b = summed(b...)
		}
		want, wantErr := plainParse(b)
		if got, err := wire.Parse(b); err != wantErr || !same(got, want) {
			t.Errorf("%v: %v %v, not %v %v", b, got, err, want, wantErr)
		}
	})
}
