package gauge_test

import (
	"bytes"
	"math"
	"math/big"
	"regexp"
	"slices"
	"strconv"
	"strings"
	"testing"

	"hydrocascade/api"
	"hydrocascade/gauge"
	"hydrocascade/samples"
)

const (
	maxGauge   = 255
	recordSize = 12
)

// reading is short, because the tables consist of it.
func reading(gauge, time, value, flag int) api.Reading {
	return api.Reading{Gauge: gauge, Time: time, Value: value, Flag: flag}
}

// Numbers of each field that are permitted, at the ends of their ranges and within, and numbers that are not.
var (
	gauges    = []int{0, 1, 127, 128, 254, maxGauge}
	times     = []int{0, 1, 95, 96, 255, 256, 65535, 65536, api.MaxTime - 1, api.MaxTime}
	values    = []int{0, 1, 255, 256, 65536, api.MaxTime + 1, api.MaxFlow - 1, api.MaxFlow}
	flags     = []int{api.FlagOK, api.FlagIce, api.FlagFault}
	noGauges  = []int{math.MinInt, -256, -1, maxGauge + 1, 1 << 32, math.MaxInt}
	noTimes   = []int{math.MinInt, -1, api.MaxTime + 1, 1 << 31, 1 << 32, math.MaxInt}
	noValues  = []int{math.MinInt, -1, api.MaxFlow + 1, 1 << 31, 1 << 32, math.MaxInt}
	noFlags   = []int{math.MinInt, -1, api.FlagFault + 1, 255, 256, math.MaxInt}
	allGauges = slices.Concat(gauges, noGauges)
	allTimes  = slices.Concat(times, noTimes)
	allValues = slices.Concat(values, noValues)
	allFlags  = slices.Concat(flags, noFlags)
)

// firstError is the error of a reading by the promise.
func firstError(r api.Reading) api.Errno {
	for _, field := range []struct {
		wrong bool
		code  api.Errno
	}{
		{slices.Contains(noGauges, r.Gauge), api.ErrRange},
		{slices.Contains(noTimes, r.Time), api.ErrTime},
		{slices.Contains(noValues, r.Value), api.ErrRange},
		{slices.Contains(noFlags, r.Flag), api.ErrKind},
	} {
		if field.wrong {
			return field.code
		}
	}
	return api.OK
}

// eachReading calls a function for readings with all those numbers.
func eachReading(gauges, times, values, flags []int, do func(r api.Reading)) {
	for _, g := range gauges {
		for _, t := range times {
			for _, v := range values {
				for _, f := range flags {
					do(reading(g, t, v, f))
				}
			}
		}
	}
}

// validLists are lists of valid readings, also as long as permitted.
func validLists() map[string][]api.Reading {
	lists := map[string][]api.Reading{
		"no readings":              nil,
		"an empty slice":           {},
		"a reading of zeros":       {{}},
		"the greatest numbers":     {reading(maxGauge, api.MaxTime, api.MaxFlow, api.FlagFault)},
		"the chapter's example":    {reading(3, 96, 1250, api.FlagOK)},
		"the same reading twice":   {reading(3, 96, 1250, api.FlagIce), reading(3, 96, 1250, api.FlagIce)},
		"times that go back":       {reading(3, 97, 5, 0), reading(2, 96, 6, 1), reading(3, 0, 7, 2)},
		"as many as permitted":     someReadings(&samples.Sequence{}, api.MaxList),
		"one fewer than permitted": someReadings(&samples.Sequence{}, api.MaxList-1),
		"as many, all of zeros":    make([]api.Reading, api.MaxList),
	}
	var all []api.Reading
	eachReading(gauges, times, values, flags, func(r api.Reading) { all = append(all, r) })
	lists["all combinations"] = all
	return lists
}

// someReadings returns so many random readings that are valid.
func someReadings(numbers *samples.Sequence, count int) []api.Reading {
	l := make([]api.Reading, count)
	for i := range l {
		l[i] = reading(numbers.Below(maxGauge+1), numbers.Below(api.MaxTime+1), numbers.Below(api.MaxFlow+1), numbers.Below(api.FlagFault+1))
	}
	return l
}

// refused is readings with an error.
type refused struct {
	name string
	list []api.Reading
	code api.Errno
}

// refusedReadings are lists in which the first reading that has an error decides.
func refusedReadings() []refused {
	good, wrong := reading(3, 96, 1250, 0), reading(-1, -1, -1, -1)
	noTime, noValue, noFlag := reading(3, -1, -1, -1), reading(3, 96, -1, -1), reading(3, 96, 1250, 3)
	return []refused{
		{"all fields wrong", []api.Reading{wrong}, api.ErrRange},
		{"all but the gauge wrong", []api.Reading{noTime}, api.ErrTime},
		{"value and flag wrong", []api.Reading{noValue}, api.ErrRange},
		{"the flag wrong", []api.Reading{noFlag}, api.ErrKind},
		{"the last of some wrong", []api.Reading{good, good, noTime}, api.ErrTime},
		{"one in the middle wrong", []api.Reading{good, noFlag, good}, api.ErrKind},
		{"a flag, then a time", []api.Reading{good, noFlag, noTime}, api.ErrKind},
		{"a time, then a flag", []api.Reading{good, noTime, noFlag}, api.ErrTime},
		{"a flag, then a gauge", []api.Reading{noFlag, wrong}, api.ErrKind},
		{"a value, then a time", []api.Reading{noValue, noTime}, api.ErrRange},
		{"as many as permitted, the last wrong", append(make([]api.Reading, api.MaxList-1), noFlag), api.ErrKind},
	}
}

// refusedLists are lists that are not written.
func refusedLists() []refused {
	noTime := reading(3, -1, 0, 0)
	return append(refusedReadings(),
		refused{"one too many", make([]api.Reading, api.MaxList+1), api.ErrLimit},
		refused{"many too many", make([]api.Reading, 5*api.MaxList), api.ErrLimit},
		refused{"one too many, the first wrong", append([]api.Reading{noTime}, make([]api.Reading, api.MaxList)...), api.ErrLimit},
		refused{"one too many, the last wrong", append(make([]api.Reading, api.MaxList), noTime), api.ErrLimit},
	)
}

func expectDecode(t *testing.T, name string, b []byte, want []api.Reading, wantIndex int, code api.Errno) {
	t.Helper()
	if l, index, gotCode := gauge.Decode(b); !slices.Equal(l, want) || index != wantIndex || gotCode != code {
		t.Errorf("%s: Decode = %d readings, %d, %d; want %d, %d, %d", name, len(l), index, gotCode, len(want), wantIndex, code)
	}
}

func expectParse(t *testing.T, name, text string, want []api.Reading, wantLine int, code api.Errno) {
	t.Helper()
	if l, line, gotCode := gauge.Parse(text); !slices.Equal(l, want) || line != wantLine || gotCode != code {
		t.Errorf("%s: Parse(%.80q) = %d readings, %d, %d; want %d, %d, %d", name, text, len(l), line, gotCode, len(want), wantLine, code)
	}
}

func expectSeries(t *testing.T, name string, l []api.Reading, number, from, count int, want []api.Reading, code api.Errno) {
	t.Helper()
	if got, gotCode := gauge.Series(l, number, from, count); !slices.Equal(got, want) || gotCode != code {
		t.Errorf("%s: Series(%d, %d, %d) = %v, %d; want %v, %d", name, number, from, count, got, gotCode, want, code)
	}
}

// P6.1, R5: each field at the ends of its range and beyond, with all others right and wrong.
func TestCheckReturnsTheFirstError(t *testing.T) {
	eachReading(allGauges, allTimes, allValues, allFlags, func(r api.Reading) {
		if code := gauge.Check(r); code != firstError(r) {
			t.Errorf("%v: error %d; want %d", r, code, firstError(r))
		}
	})
}

// P6.2
func TestSumOfNamedCases(t *testing.T) {
	for name, c := range map[string]struct {
		bytes []byte
		want  int
	}{
		"no bytes":                    {nil, 0},
		"an empty slice":              {[]byte{}, 0},
		"a byte 0 counts":             {[]byte{0}, 1},
		"the greatest byte":           {[]byte{255}, 256},
		"the first position is 1":     {[]byte{5, 7}, 1*6 + 2*8},
		"bytes in the other order":    {[]byte{7, 5}, 1*8 + 2*6},
		"positions of bytes 0":        {make([]byte, 10), 55},
		"ten bytes, the greatest sum": {bytes.Repeat([]byte{255}, 10), 55 * 256},
		"just below the modulus":      {make([]byte, 361), 361 * 362 / 2},
		"just beyond the modulus":     {make([]byte, 362), 362*363/2 - 65521},
		"a multiple of the modulus":   {make([]byte, 65521), 0},
		"one more":                    {make([]byte, 65522), 1},
	} {
		if sum := gauge.Sum(c.bytes); sum != c.want {
			t.Errorf("%s: %d; want %d", name, sum, c.want)
		}
	}
}

// exactSum is Sum by the promise, with a sum of any length.
func exactSum(b []byte) int {
	sum := new(big.Int)
	for i, c := range b {
		sum.Add(sum, big.NewInt(int64(i+1)*(int64(c)+1)))
	}
	return int(sum.Mod(sum, big.NewInt(65521)).Int64())
}

// P6.2
func TestSumOfManyBytesIsExact(t *testing.T) {
	numbers := &samples.Sequence{}
	for _, count := range []int{1, 2, 9, 12, 300, 1000, 65520, 65521, 65522, 1 << 20} {
		b := bytes.Repeat([]byte{255}, count)
		for range 3 {
			if sum := gauge.Sum(b); sum != exactSum(b) {
				t.Errorf("%d bytes: %d; want %d", count, sum, exactSum(b))
			}
			for i := range b {
				b[i] = byte(numbers.Below(256))
			}
		}
	}
}

// record returns the twelve bytes of numbers that need not be valid: digits of base 256, which divisions give.
func record(r api.Reading) []byte {
	b := make([]byte, recordSize)
	b[0], b[9] = byte(r.Gauge), byte(r.Flag)
	for i, unit := range []int{1 << 24, 1 << 16, 1 << 8, 1} {
		b[1+i], b[5+i] = byte(r.Time/unit%256), byte(r.Value/unit%256)
	}
	sum := exactSum(b[:10])
	b[10], b[11] = byte(sum/256), byte(sum%256)
	return b
}

// records returns the bytes of several readings.
func records(l ...api.Reading) []byte {
	var b []byte
	for _, r := range l {
		b = append(b, record(r)...)
	}
	return b
}

// P6.2
func TestEncodeOfNamedCases(t *testing.T) {
	for name, c := range map[string]struct {
		list []api.Reading
		want []byte
	}{
		"a reading of zeros":    {[]api.Reading{{}}, []byte{0, 0, 0, 0, 0, 0, 0, 0, 0, 0, 0, 55}},
		"the chapter's example": {[]api.Reading{reading(3, 96, 1250, 0)}, []byte{3, 0, 0, 0, 96, 0, 0, 4, 226, 0, 10, 44}},
		"the greatest numbers":  {[]api.Reading{reading(255, api.MaxTime, api.MaxFlow, 2)}, []byte{255, 1, 0, 0, 0, 64, 0, 0, 0, 2, 2, 204}},
		"different bytes":       {[]api.Reading{reading(1, 0x00020304, 0x05060708, 1)}, []byte{1, 0, 2, 3, 4, 5, 6, 7, 8, 1, 1, 48}},
		"two readings":          {[]api.Reading{{}, reading(0, 0, 0, 1)}, []byte{0, 0, 0, 0, 0, 0, 0, 0, 0, 0, 0, 55, 0, 0, 0, 0, 0, 0, 0, 0, 0, 1, 0, 65}},
	} {
		if b, code := gauge.Encode(c.list); !bytes.Equal(b, c.want) || code != api.OK {
			t.Errorf("%s: %v, %d; want %v", name, b, code, c.want)
		}
	}
}

// P6.2, and the first consequence.
func TestBytesAreThoseOfTheReadings(t *testing.T) {
	for name, l := range validLists() {
		want := records(l...)
		if b, code := gauge.Encode(l); !bytes.Equal(b, want) || code != api.OK {
			t.Errorf("%s: error %d, or other bytes", name, code)
		}
		expectDecode(t, name, want, l, 0, api.OK)
	}
}

// P6.2, P6.3, R3, R5
func TestListsAreRefusedInOrder(t *testing.T) {
	for _, c := range refusedLists() {
		if b, code := gauge.Encode(c.list); len(b) > 0 || code != c.code {
			t.Errorf("%s: Encode = %d bytes, %d; want error %d", c.name, len(b), code, c.code)
		}
		if text, code := gauge.Print(c.list); text != "" || code != c.code {
			t.Errorf("%s: Print = %d bytes, %d; want error %d", c.name, len(text), code, c.code)
		}
	}
}

// P6.2, R3, R5: the first twelve bytes that are wrong decide, wherever they are.
func TestDecodeRefusesInOrder(t *testing.T) {
	good := reading(3, 96, 1250, 0)
	noSum := record(good)
	noSum[11]++
	for _, c := range []struct {
		name  string
		bytes []byte
		index int
		code  api.Errno
	}{
		{"a byte too many for the limit", make([]byte, recordSize*api.MaxList+1), 0, api.ErrLimit},
		{"a reading too many for the limit", records(make([]api.Reading, api.MaxList+1)...), 0, api.ErrLimit},
		{"far too many bytes", make([]byte, 100*recordSize*api.MaxList), 0, api.ErrLimit},
		{"a byte of as many as permitted is missing", records(make([]api.Reading, api.MaxList)...)[:recordSize*api.MaxList-1], recordSize * (api.MaxList - 1), api.ErrForm},
		{"the last of as many as permitted is wrong", records(append(make([]api.Reading, api.MaxList-1), reading(0, 0, 0, 3))...), recordSize * (api.MaxList - 1), api.ErrKind},
		{"bytes of 0, whose sum is not 0", make([]byte, recordSize), 0, api.ErrSum},
		{"the sum, then fewer than twelve", append(slices.Clone(noSum), 0), 0, api.ErrSum},
		{"a flag, then the sum", append(record(reading(3, 96, 1250, 3)), noSum...), 0, api.ErrKind},
		{"the sum behind a good one", append(record(good), noSum...), 12, api.ErrSum},
		{"the sum, then a flag", append(slices.Clone(noSum), record(reading(3, 96, 1250, 3))...), 0, api.ErrSum},
		{"the sum, and a time that is wrong", append(record(reading(3, api.MaxTime+1, 0, 0))[:10], 0, 0), 0, api.ErrSum},
		{"a time behind two good ones", records(good, good, reading(3, api.MaxTime+1, 0, 0)), 24, api.ErrTime},
		{"the greatest time of four bytes", records(good, reading(3, math.MaxUint32, 0, 0), good), 12, api.ErrTime},
		{"a time with the highest bit", records(good, reading(3, 1<<31, 0, 0), good), 12, api.ErrTime},
		{"a value that is too great by 1", records(good, reading(3, 96, api.MaxFlow+1, 0)), 12, api.ErrRange},
		{"the greatest value of four bytes", records(good, reading(3, 96, math.MaxUint32, 0)), 12, api.ErrRange},
		{"time, value and flag wrong", records(reading(3, 1<<25, 1<<31, 9)), 0, api.ErrTime},
		{"value and flag wrong", records(reading(3, 96, 1<<31, 9)), 0, api.ErrRange},
		{"a flag, then a time", records(reading(3, 96, 1, 3), reading(3, 1<<25, 1, 0)), 0, api.ErrKind},
		{"the greatest flag of a byte", records(reading(3, 96, 1, 255)), 0, api.ErrKind},
	} {
		expectDecode(t, c.name, c.bytes, nil, c.index, c.code)
	}
}

// P6.2: bytes that end at each place of the records.
func TestDecodeRefusesFewerThanTwelveBytes(t *testing.T) {
	l := []api.Reading{reading(3, 96, 1250, 0), {}, reading(255, api.MaxTime, api.MaxFlow, 2)}
	b := records(l...)
	for size := range len(b) + 1 {
		whole := size / recordSize
		if size%recordSize == 0 {
			expectDecode(t, "whole records", b[:size], l[:whole], 0, api.OK)
		} else {
			expectDecode(t, "a part of a record", b[:size], nil, whole*recordSize, api.ErrForm)
		}
	}
}

// The second consequence: each byte of a record, changed to each other value.
func TestEachChangedByteIsNoticed(t *testing.T) {
	l := append(someReadings(&samples.Sequence{}, 4), api.Reading{}, reading(maxGauge, api.MaxTime, api.MaxFlow, 2))
	b := records(l...)
	for at, original := range b {
		for change := 1; change < 256; change++ {
			b[at] = original ^ byte(change)
			expectDecode(t, "a changed byte "+strconv.Itoa(at), b, nil, at/recordSize*recordSize, api.ErrSum)
		}
		b[at] = original
	}
}

// textOf is the text of readings by the promise.
func textOf(l []api.Reading) string {
	text := ""
	for _, r := range l {
		word := map[int]string{api.FlagOK: "ok", api.FlagIce: "ice", api.FlagFault: "fault"}[r.Flag]
		text += strings.Join([]string{strconv.Itoa(r.Gauge), strconv.Itoa(r.Time), strconv.Itoa(r.Value), word}, " ") + "\n"
	}
	return text
}

// P6.3, and the first consequence for texts that Parse permits.
func TestTextIsThatOfTheReadings(t *testing.T) {
	for name, l := range validLists() {
		text, code := gauge.Print(l)
		if text != textOf(l) || code != api.OK {
			t.Errorf("%s: error %d, or another text", name, code)
		}
		if len(text) <= api.MaxText {
			expectParse(t, name, text, l, 0, api.OK)
		} else {
			expectParse(t, name, text, nil, 0, api.ErrLimit)
		}
	}
}

// P6.3
func TestPrintOfNamedCases(t *testing.T) {
	for want, l := range map[string][]api.Reading{
		"":               nil,
		"0 0 0 ok\n":     {{}},
		"3 96 1250 ok\n": {reading(3, 96, 1250, api.FlagOK)},
		"255 16777216 1073741824 fault\n7 10 100 ice\n": {reading(255, api.MaxTime, api.MaxFlow, api.FlagFault), reading(7, 10, 100, api.FlagIce)},
	} {
		if text, code := gauge.Print(l); text != want || code != api.OK {
			t.Errorf("%v: %q, %d; want %q", l, text, code, want)
		}
	}
}

// P6.3
func TestParsePermitsSpacesAndEmptyLines(t *testing.T) {
	one, two := reading(3, 96, 1250, api.FlagOK), reading(4, 97, 0, api.FlagIce)
	for text, want := range map[string][]api.Reading{
		"":                                       nil,
		"\n":                                     nil,
		" ":                                      nil,
		"\n \n  \n":                              nil,
		"3 96 1250 ok":                           {one},
		"3 96 1250 ok\n":                         {one},
		" 3 96 1250 ok":                          {one},
		"3 96 1250 ok ":                          {one},
		"   3  96    1250 ok   \n":               {one},
		"\n\n3 96 1250 ok\n\n":                   {one},
		"  \n3 96 1250 ok\n  ":                   {one},
		"3 96 1250 ok\n4 97 0 ice":               {one, two},
		"3 96 1250 ok\n\n \n4 97 0 ice\n":        {one, two},
		"4 97 0 ice\n3 96 1250 ok\n4 97 0 ice\n": {two, one, two},
		"0000000003 0000000096 0000001250 ok":    {one},
		"003 096 01250 ok":                       {one},
		"0 0 0 fault":                            {reading(0, 0, 0, api.FlagFault)},
		"0000000000 0000000000 0000000000 ok":    {{}},
		"255 16777216 1073741824 fault":          {reading(maxGauge, api.MaxTime, api.MaxFlow, api.FlagFault)},
		strings.Repeat(" ", api.MaxText):         nil,
		strings.Repeat("\n", api.MaxText):        nil,
		strings.Repeat(" ", api.MaxText-12) + "3 96 1250 ok":     {one},
		strings.Repeat("\n", api.MaxText-12) + "3 96 1250 ok":    {one},
		"3" + strings.Repeat(" ", api.MaxText-11) + "96 1250 ok": {one},
		strings.Repeat("0 0 0 ok\n", api.MaxList):                make([]api.Reading, api.MaxList),
		strings.Repeat("\n0 0 0 ok\n \n", api.MaxList):           make([]api.Reading, api.MaxList),
	} {
		expectParse(t, "a text", text, want, 0, api.OK)
	}
}

// lineCase is a text of one line that is wrong.
type lineCase struct {
	line string
	code api.Errno
}

// refusedLines are lines that do not have the form, or readings that are not valid.
func refusedLines() []lineCase {
	var cases []lineCase
	for _, line := range []string{
		"x", "3", "3 96", "3 96 1250", "96 1250 ok", "ok", "ok 3 96 1250", "3 96 1250 ok ok", "3 96 1250 7 ok", "3 96 1250 ok 7", "3 96 1250 ok #", "# 96 1250 ok", "#",
		"3 96 1250 OK", "3 96 1250 Ok", "3 96 1250 okay", "3 96 1250 o", "3 96 1250 iced", "3 96 1250 faul", "3 96 1250 faults", "3 96 1250 0", "3 96 1250 1", "3 96 1250 ok.", "3 96 ok 1250", "3 96 1250 o k", "3 96 1250ok",
		"-3 96 1250 ok", "3 -96 1250 ok", "3 96 -1250 ok", "-0 96 1250 ok", "+3 96 1250 ok", "3 +96 1250 ok", "3 96 +1250 ok", "3 96 1250. ok", "3 96 12.5 ok", "3 96 1,250 ok", "3 96 1_250 ok", "0x3 96 1250 ok", "3 96 1e3 ok", "3 96 / ok", "3 96 : ok", "a 96 1250 ok", "3 b 1250 ok", "3 96 c ok",
		"00000000003 96 1250 ok", "3 00000000096 1250 ok", "3 96 00000001250 ok", "3 96 10000000000 ok", "3 96 18446744073709552866 ok", "18446744073709551619 96 1250 ok", "3 96 " + strings.Repeat("0", 60000) + " ok",
		"3\t96 1250 ok", "3 96 1250 ok\t", "\t3 96 1250 ok", "\t", "\r", "3 96 1250 ok\r", "3 96 1250 \rok", "\v", "\f", "3\v96 1250 ok", "3\u00a096 1250 ok", "3 96 1250 ok\u00a0", "\u2003", "3 96 1250 ok\x00", "\x00", "3 96 1250 ok\x85", "\xff", "3 96 1250\xff ok", "\uff13 96 1250 ok", "\u0663 96 1250 ok", "\ufeff3 96 1250 ok", "3 96 1250 \u043ek", "3 96 1250 ok\u2028", "\"3 96 1250 ok\"",
		"256 16777217 1073741825 bad", "9999999999 0 0 x", "256 96 1250", "256 96 -1 ok", "3 16777217 x ok", "3 16777217 0 OK", "256 0 0 ok ok",
	} {
		cases = append(cases, lineCase{line, api.ErrText})
	}
	return append(cases,
		lineCase{"256 96 1250 ok", api.ErrRange}, lineCase{"9999999999 96 1250 ok", api.ErrRange}, lineCase{"4294967296 96 1250 ok", api.ErrRange},
		lineCase{"3 16777217 1250 ok", api.ErrTime}, lineCase{"3 9999999999 1250 ok", api.ErrTime}, lineCase{"3 4294967296 1250 ok", api.ErrTime},
		lineCase{"3 96 1073741825 ok", api.ErrRange}, lineCase{"3 96 9999999999 ok", api.ErrRange}, lineCase{"3 96 4294967296 ok", api.ErrRange},
		lineCase{"256 16777217 0 ice", api.ErrRange}, lineCase{"3 16777217 1073741825 fault", api.ErrTime}, lineCase{" 0256  0 0  fault ", api.ErrRange})
}

// P6.3, R3, R5: a wrong line alone, and the first of several with its number, counting lines without words.
func TestParseRefusesLinesWithTheirNumbers(t *testing.T) {
	for _, c := range refusedLines() {
		expectParse(t, "alone", c.line, nil, 1, c.code)
		expectParse(t, "with a line feed", c.line+"\n", nil, 1, c.code)
		expectParse(t, "behind a good line", "3 96 1250 ok\n"+c.line, nil, 2, c.code)
		expectParse(t, "behind lines without words", "\n \n3 96 1250 ok\n\n  "+c.line+"\n3 96 1250 ok\n", nil, 5, c.code)
		expectParse(t, "before a line without the form", c.line+"\nx", nil, 1, c.code)
		expectParse(t, "before an invalid time", "\n"+c.line+"\n0 16777217 0 ok", nil, 2, c.code)
		expectParse(t, "before an invalid gauge", "\n"+c.line+"\n256 0 0 ok", nil, 2, c.code)
	}
}

// P6.3: what is too long decides before the lines, and only lines with words count.
func TestParseRefusesWhatIsTooLong(t *testing.T) {
	long := strings.Repeat("0 0 0 ok\n", api.MaxList)
	for name, text := range map[string]string{
		"a space too many":                          strings.Repeat(" ", api.MaxText+1),
		"a line feed too many":                      strings.Repeat("\n", api.MaxText+1),
		"a digit too many":                          strings.Repeat("0", api.MaxText+1),
		"a wrong line in a text that is too long":   "x\n" + strings.Repeat(" ", api.MaxText),
		"a good line in a text that is too long":    strings.Repeat(" ", api.MaxText-11) + "3 96 1250 ok",
		"a line too many":                           long + "0 0 0 ok\n",
		"a line too many, without a line feed":      long + "0 0 0 ok",
		"a line too many, which is wrong":           long + "x",
		"a line too many, the first one wrong":      "x\n" + long,
		"a line too many, the first one invalid":    "256 0 0 ok\n" + long,
		"a line too many of other spaces":           long + "\t",
		"a line too many, after lines without them": "\n \n" + long + "\n0 0 0 ok",
		"a line of the shortest words too many":     strings.Repeat("x\n", api.MaxList+1),
		"as many lines as bytes permit":             strings.Repeat("x\n", api.MaxText/2),
	} {
		expectParse(t, name, text, nil, 0, api.ErrLimit)
	}
	expectParse(t, "as many wrong lines as permitted", strings.Repeat("x\n", api.MaxList), nil, 1, api.ErrText)
	expectParse(t, "the last of as many as permitted", "\n"+strings.Repeat("0 0 0 ok\n", api.MaxList-1)+"x", nil, api.MaxList+1, api.ErrText)
	expectParse(t, "a wrong line as long as permitted", strings.Repeat("0", api.MaxText), nil, 1, api.ErrText)
}

var lineForm = regexp.MustCompile(`^ *([0-9]{1,10}) +([0-9]{1,10}) +([0-9]{1,10}) +(ok|ice|fault) *$`)

// parsedByForm is Parse by a regular expression, for texts within the limits.
func parsedByForm(text string) ([]api.Reading, int, api.Errno) {
	var l []api.Reading
	for i, line := range strings.Split(text, "\n") {
		if strings.Trim(line, " ") == "" {
			continue
		}
		parts := lineForm.FindStringSubmatch(line)
		if parts == nil {
			return nil, i + 1, api.ErrText
		}
		var r api.Reading
		r.Gauge, _ = strconv.Atoi(parts[1])
		r.Time, _ = strconv.Atoi(parts[2])
		r.Value, _ = strconv.Atoi(parts[3])
		r.Flag = slices.Index([]string{"ok", "ice", "fault"}, parts[4])
		if code := gauge.Check(r); code != api.OK {
			return nil, i + 1, code
		}
		l = append(l, r)
	}
	return l, 0, api.OK
}

// P6.3: good texts in which some bytes are changed, taken out or put in, against the form of a line.
func TestParseOfChangedTexts(t *testing.T) {
	const bytesPutIn = "   \n\n0123456789-+\tokicefault\r\x00\xff"
	numbers := &samples.Sequence{}
	accepted := 0
	for range 40000 {
		text := []byte(textOf(someReadings(numbers, 1+numbers.Below(3))))
		for range numbers.Below(4) {
			at := numbers.Below(len(text))
			text = slices.Replace(text, at, at+numbers.Below(2), bytesPutIn[numbers.Below(len(bytesPutIn))])
			text = slices.Delete(text, at, at+numbers.Below(2))
		}
		want, line, code := parsedByForm(string(text))
		expectParse(t, "a changed text", string(text), want, line, code)
		if code == api.OK {
			accepted++
		}
	}
	if accepted < 4000 || accepted > 36000 {
		t.Errorf("%d of 40000 texts are right, so that the others are hardly tested", accepted)
	}
}

// missing is what Series has where there is no reading.
func missing(gauge, time int) api.Reading { return reading(gauge, time, 0, api.FlagFault) }

// P6.4
func TestSeriesOfNamedCases(t *testing.T) {
	l := []api.Reading{
		reading(1, 5, 10, 0), reading(2, 6, 99, 0), reading(1, 7, 12, 1), reading(1, 5, 11, 2), reading(1, 4, 1, 0), reading(2, 5, 98, 0),
		reading(0, 0, 3, 0), reading(255, api.MaxTime, 4, 0), reading(255, api.MaxTime-1, 5, 1), reading(0, 0, 0, 0),
	}
	for _, c := range []struct {
		name                string
		list                []api.Reading
		number, from, count int
		want                []api.Reading
	}{
		{"the last of two, one missing, and none behind", l, 1, 5, 4, []api.Reading{l[3], missing(1, 6), l[2], missing(1, 8)}},
		{"from a step before the first one", l, 1, 3, 3, []api.Reading{missing(1, 3), l[4], l[3]}},
		{"another gauge", l, 2, 4, 4, []api.Reading{missing(2, 4), l[5], l[1], missing(2, 7)}},
		{"a gauge without readings", l, 3, 5, 2, []api.Reading{missing(3, 5), missing(3, 6)}},
		{"one step", l, 1, 7, 1, l[2:3]},
		{"no steps", l, 1, 5, 0, nil},
		{"no steps from the last time", l, 255, api.MaxTime, 0, nil},
		{"the step before the last time", l, 255, api.MaxTime - 1, 1, l[8:9]},
		{"the first gauge at the first time, where zeros are a reading", l, 0, 0, 2, []api.Reading{l[9], missing(0, 1)}},
		{"no readings", nil, 9, 0, 2, []api.Reading{missing(9, 0), missing(9, 1)}},
		{"an empty slice, no steps", []api.Reading{}, 9, 0, 0, nil},
	} {
		expectSeries(t, c.name, c.list, c.number, c.from, c.count, c.want, api.OK)
	}
}

// P6.4: as many steps as permitted, from the first one and to the last one, and a list that is longer than those that are written.
func TestSeriesOfManySteps(t *testing.T) {
	list := make([]api.Reading, 3*api.MaxList)
	for i := range list {
		list[i] = reading(7, i%api.MaxList, i, api.FlagIce)
	}
	expectSeries(t, "as many as permitted", list, 7, 0, api.MaxList, list[2*api.MaxList:], api.OK)
	want := make([]api.Reading, api.MaxList)
	for i := range want {
		want[i] = missing(8, api.MaxTime-api.MaxList+i)
	}
	expectSeries(t, "up to the last time", list, 8, api.MaxTime-api.MaxList, api.MaxList, want, api.OK)
}

// P6.4, R3, R5
func TestSeriesRefusesInOrder(t *testing.T) {
	good := []api.Reading{reading(1, 5, 10, 0)}
	counts, noCounts := []int{0, 1, api.MaxList}, []int{math.MinInt, -1, api.MaxList + 1, math.MaxInt}
	lists := append(refusedReadings(), refused{"a good reading", good, api.OK}, refused{"no readings", nil, api.OK})
	for _, c := range lists {
		for _, number := range allGauges {
			for _, from := range append(allTimes, api.MaxTime-api.MaxList, api.MaxTime-api.MaxList+1) {
				for _, count := range slices.Concat(counts, noCounts) {
					want := c.code
					if slices.Contains(noGauges, number) || slices.Contains(noCounts, count) {
						want = api.ErrRange
					} else if slices.Contains(noTimes, from) || count > api.MaxTime-from {
						want = api.ErrTime
					}
					if series, code := gauge.Series(c.list, number, from, count); code != want || code != api.OK && len(series) > 0 {
						t.Errorf("%s: Series(%d, %d, %d) = %d readings, %d; want error %d", c.name, number, from, count, len(series), code, want)
					}
				}
			}
		}
	}
}

// P6.4: against a search from the end of the list for each step.
func TestSeriesIsTheLastReadingOfEachStep(t *testing.T) {
	numbers := &samples.Sequence{}
	for range 2000 {
		list := someReadings(numbers, numbers.Below(30))
		for i := range list {
			list[i].Gauge, list[i].Time = numbers.Below(3), numbers.Below(12)
		}
		number, from := numbers.Below(3), numbers.Below(12)
		want := make([]api.Reading, numbers.Below(12))
		for i := range want {
			want[i] = missing(number, from+i)
			for _, r := range slices.Backward(list) {
				if r.Gauge == number && r.Time == from+i {
					want[i] = r
					break
				}
			}
		}
		expectSeries(t, "a random list", list, number, from, len(want), want, api.OK)
	}
}

// R2: what is passed in stays as it is, also around it where the slice has room.
func TestArgumentsAreNotChanged(t *testing.T) {
	lists := validLists()
	for _, c := range refusedLists() {
		lists[c.name] = c.list
	}
	for name, list := range lists {
		l, whole := samples.Window(list, reading(9, 8, 7, 6))
		b, wholeBytes := samples.Window(records(list...), 9)
		wholeBefore, bytesBefore := slices.Clone(whole), slices.Clone(wholeBytes)
		gauge.Encode(l)
		gauge.Print(l)
		gauge.Series(l, 3, 90, 10)
		gauge.Decode(b)
		gauge.Sum(b)
		if !slices.Equal(whole, wholeBefore) || !bytes.Equal(wholeBytes, bytesBefore) {
			t.Errorf("%s: the arguments were changed", name)
		}
	}
}

// R2, R4: results are new memory, and nothing is kept of arguments that are changed afterwards.
func TestResultsAreNewMemory(t *testing.T) {
	list := []api.Reading{reading(3, 96, 1250, 0), reading(3, 97, 1251, 1)}
	original := slices.Clone(list)
	b, _ := gauge.Encode(list)
	decoded, _, _ := gauge.Decode(b)
	series, _ := gauge.Series(list, 3, 96, 2)
	again, _ := gauge.Series(list, 3, 96, 2)
	list[0], series[1], b[0] = api.Reading{}, api.Reading{}, 99
	if !slices.Equal(decoded, original) || !slices.Equal(again, original) || series[0] != original[0] {
		t.Error("a result changed with an argument, or with another result")
	}
	if list[1] != original[1] {
		t.Error("an argument changed with a result")
	}
	if fresh, _ := gauge.Encode(original); !bytes.Equal(fresh, records(original...)) {
		t.Error("a result changed with an earlier one")
	}
	expectSeries(t, "a changed list", list, 3, 96, 2, []api.Reading{missing(3, 96), original[1]}, api.OK)
}
