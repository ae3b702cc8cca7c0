package impl

import (
	"slices"
	"strconv"
	"strings"
)

// Error codes.
const (
	OK          = 0
	ErrInvalid  = 1
	ErrRange    = 2
	ErrLimit    = 3
	ErrState    = 4
	ErrSyntax   = 5
	ErrNotFound = 6
	ErrBudget   = 7
	ErrProof    = 8
)

// Limits of fractions.
const (
	MaxPart  = 1000000000
	MaxFracs = 64
)

// maxGiven is the greatest size of a part that MakeFrac takes. All numbers on
// the way are at most three times as great, so that none of them overflows.
const maxGiven = MaxPart * MaxPart

// The places of the operations in their table.
const (
	sums = iota
	differences
	products
	quotients
)

// Frac stands for P / Q.
type Frac struct {
	P int64
	Q int64
}

// Span has all numbers from Low to High.
type Span struct {
	Low  Frac
	High Frac
}

// coded is what a calculation panics with: it knows which error is told.
type coded interface {
	code() int64
}

// tooGreat is a fraction in lowest terms that is not valid.
type tooGreat Frac

// byZero is a fraction that should have been divided by 0.
type byZero Frac

// averaged is what means are made of: fractions here, and whole numbers where
// readings are (chapter 6).
type averaged interface {
	Frac | int64
}

var codeNames = [9]string{"ok", "invalid", "range", "limit", "state", "syntax", "notfound", "budget", "proof"}

// CodeName returns the name of an error code.
func CodeName(code int64) string {
	if code < 0 || code >= int64(len(codeNames)) {
		return ""
	}
	return codeNames[code]
}

// ValidFrac reports whether a is valid.
func ValidFrac(a Frac) bool {
	if a.Q < 1 || a.Q > MaxPart || a.P < -MaxPart || a.P > MaxPart {
		return false
	}
	return commonDivisor(a.P, a.Q) == 1
}

// MakeFrac returns the fraction with the value p / q.
func MakeFrac(p, q int64) (Frac, int64) {
	if isGreater(p, maxGiven) || isGreater(q, maxGiven) {
		return Frac{}, ErrRange
	}
	if q == 0 {
		return Frac{}, ErrState
	}
	return told(func() Frac { return lowest(p, q) })
}

// Whole returns the fraction with the value n.
func Whole(n int64) (Frac, int64) {
	return told(func() Frac { return fitting(n, 1) })
}

// AddFracs returns a + b.
func AddFracs(a, b Frac) (Frac, int64) { return operate(sums, a, b) }

// SubFracs returns a - b.
func SubFracs(a, b Frac) (Frac, int64) { return operate(differences, a, b) }

// MulFracs returns a * b.
func MulFracs(a, b Frac) (Frac, int64) { return operate(products, a, b) }

// DivFracs returns a / b.
func DivFracs(a, b Frac) (Frac, int64) { return operate(quotients, a, b) }

// CompareFracs compares two fractions.
func CompareFracs(a, b Frac) (int64, int64) {
	if !ValidFrac(a) || !ValidFrac(b) {
		return 0, ErrInvalid
	}
	return int64(a.order(b)), OK
}

// NearestTo returns the integer that is nearest to a / unit.
func NearestTo(a, unit Frac) (int64, int64) {
	if !ValidFrac(a) || !ValidFrac(unit) {
		return 0, ErrInvalid
	}
	if unit.P <= 0 {
		return 0, ErrRange
	}
	return told(func() int64 { return a.nearest(unit) })
}

// FloorOf returns the greatest integer that is at most a.
func FloorOf(a Frac) (int64, int64) {
	if !ValidFrac(a) {
		return 0, ErrInvalid
	}
	return floorDiv(a.P, a.Q), OK
}

// SumOf returns the sum of fractions.
func SumOf(list []Frac) (Frac, int64) { return ofList(list, 0, sumOf) }

// MeanOf returns the mean of fractions.
func MeanOf(list []Frac) (Frac, int64) { return ofList(list, 1, meanOfFracs) }

// MiddleOf returns the fraction in the middle.
func MiddleOf(list []Frac) (Frac, int64) { return ofList(list, 1, middleOf) }

// ValidSpan reports whether s is valid.
func ValidSpan(s Span) bool {
	return ValidFrac(s.Low) && ValidFrac(s.High) && s.Low.order(s.High) <= 0
}

// SpanAround returns a span around a fraction.
func SpanAround(a, by Frac) (Span, int64) {
	if !ValidFrac(a) || !ValidFrac(by) {
		return Span{}, ErrInvalid
	}
	if by.P < 0 {
		return Span{}, ErrRange
	}
	return told(func() Span { return Span{Low: a.minus(by), High: a.plus(by)} })
}

// InSpan reports whether a fraction lies in a span.
func InSpan(s Span, a Frac) (bool, int64) {
	if !ValidSpan(s) || !ValidFrac(a) {
		return false, ErrInvalid
	}
	return s.Low.order(a) <= 0 && a.order(s.High) <= 0, OK
}

// WidthOf returns the width of a span.
func WidthOf(s Span) (Frac, int64) {
	if !ValidSpan(s) {
		return Frac{}, ErrInvalid
	}
	return told(s.width)
}

// AddSpans returns the span of all sums.
func AddSpans(s, t Span) (Span, int64) { return ofSpans(s, t, Span.plus) }

// SubSpans returns the span of all differences.
func SubSpans(s, t Span) (Span, int64) { return ofSpans(s, t, Span.minus) }

// MulSpans returns the span of all products.
func MulSpans(s, t Span) (Span, int64) { return ofSpans(s, t, Span.times) }

// MeetSpans returns what is in both spans.
func MeetSpans(s, t Span) (Span, int64) {
	if !ValidSpan(s) || !ValidSpan(t) {
		return Span{}, ErrInvalid
	}
	both := Span{Low: greatestOf(s.Low, t.Low), High: leastOf(s.High, t.High)}
	if both.Low.order(both.High) > 0 {
		return Span{}, ErrNotFound
	}
	return both, OK
}

// HullOf returns the least span that has all of several ones.
func HullOf(list []Span) (Span, int64) {
	if code := checkList(list, ValidSpan, 1); code != OK {
		return Span{}, code
	}
	hull := list[0]
	for _, s := range list {
		hull = Span{Low: leastOf(hull.Low, s.Low), High: greatestOf(hull.High, s.High)}
	}
	return hull, OK
}

// FracText returns the text of a fraction.
func FracText(a Frac) string {
	if !ValidFrac(a) {
		return ""
	}
	text := strconv.FormatInt(a.P, 10)
	if a.Q != 1 {
		text += "/" + strconv.FormatInt(a.Q, 10)
	}
	return text
}

// ReadFrac returns the fraction with the given text.
func ReadFrac(text string) (Frac, int64) {
	over, under, parted := strings.Cut(text, "/")
	if !parted {
		under = "1"
	}
	p, noOver := strconv.ParseInt(over, 10, 64)
	q, noUnder := strconv.ParseInt(under, 10, 64)
	if noOver != nil || noUnder != nil {
		return Frac{}, ErrSyntax
	}
	a := Frac{P: p, Q: q}
	// A number can be written in several ways, of which one is its text.
	if FracText(a) != text {
		return Frac{}, ErrSyntax
	}
	return a, OK
}

// SpanText returns the text of a span.
func SpanText(s Span) string {
	if !ValidSpan(s) {
		return ""
	}
	return FracText(s.Low) + ".." + FracText(s.High)
}

// ReadSpan returns the span with the given text.
func ReadSpan(text string) (Span, int64) {
	first, second, _ := strings.Cut(text, "..")
	low, one := ReadFrac(first)
	high, two := ReadFrac(second)
	s := Span{Low: low, High: high}
	if [2]int64{one, two} != [2]int64{OK, OK} || !ValidSpan(s) {
		return Span{}, ErrSyntax
	}
	return s, OK
}

func (t tooGreat) code() int64 { return ErrLimit }

func (z byZero) code() int64 { return ErrState }

// told returns what is calculated, or the error with which this panics.
func told[T any](calculate func() T) (result T, code int64) {
	code = ErrLimit // a panic of any other kind must not look like a result
	defer func() {
		if stop, ok := recover().(coded); ok {
			code = stop.code()
		}
	}()
	return calculate(), OK
}

// operate checks two fractions and does the operation at a place of the table.
func operate(place int, a, b Frac) (Frac, int64) {
	if !ValidFrac(a) || !ValidFrac(b) {
		return Frac{}, ErrInvalid
	}
	operation := operations()[place]
	return told(func() Frac { return operation(a, b) })
}

func operations() [4]func(a, b Frac) Frac {
	return [4]func(a, b Frac) Frac{
		sums:        Frac.plus,
		differences: Frac.minus,
		products:    Frac.times,
		quotients:   Frac.over,
	}
}

func (a Frac) plus(b Frac) Frac { return lowest(a.P*b.Q+b.P*a.Q, a.Q*b.Q) }

func (a Frac) minus(b Frac) Frac { return lowest(a.P*b.Q-b.P*a.Q, a.Q*b.Q) }

func (a Frac) times(b Frac) Frac { return lowest(a.P*b.P, a.Q*b.Q) }

func (a Frac) over(b Frac) Frac {
	if b.P == 0 {
		panic(byZero(a))
	}
	return lowest(a.P*b.Q, a.Q*b.P)
}

func (a Frac) nearest(unit Frac) int64 {
	return fitting(nearestDiv(a.P*unit.Q, a.Q*unit.P), 1).P
}

// order returns -1, 0 or 1. Each value has one fraction in lowest terms, so
// that equal fractions are equal as wholes.
func (a Frac) order(b Frac) int {
	if a == b {
		return 0
	}
	if a.P*b.Q < b.P*a.Q {
		return -1
	}
	return 1
}

func leastOf(a, b Frac) Frac {
	if b.order(a) < 0 {
		return b
	}
	return a
}

func greatestOf(a, b Frac) Frac {
	if b.order(a) > 0 {
		return b
	}
	return a
}

func (s Span) plus(t Span) Span {
	return Span{Low: s.Low.plus(t.Low), High: s.High.plus(t.High)}
}

func (s Span) minus(t Span) Span {
	return Span{Low: s.Low.minus(t.High), High: s.High.minus(t.Low)}
}

func (s Span) times(t Span) Span {
	ends := []Frac{s.Low.times(t.Low), s.Low.times(t.High), s.High.times(t.Low), s.High.times(t.High)}
	return Span{Low: slices.MinFunc(ends, Frac.order), High: slices.MaxFunc(ends, Frac.order)}
}

func (s Span) width() Frac { return s.High.minus(s.Low) }

// metBy returns what is in all of some valid spans, at least one, and whether
// there is anything.
func metBy(spans []Span) (Span, bool) {
	met, code := spans[0], int64(OK)
	for _, s := range spans {
		if met, code = MeetSpans(met, s); code != OK {
			return Span{}, false
		}
	}
	return met, true
}

// ofSpans checks two spans and joins them.
func ofSpans(s, t Span, join func(s, t Span) Span) (Span, int64) {
	if !ValidSpan(s) || !ValidSpan(t) {
		return Span{}, ErrInvalid
	}
	return told(func() Span { return join(s, t) })
}

// checkList returns the first error of a list with at least so many items.
func checkList[T any](list []T, isValid func(T) bool, least int) int64 {
	for _, x := range list {
		if !isValid(x) {
			return ErrInvalid
		}
	}
	if len(list) < least || len(list) > MaxFracs {
		return ErrRange
	}
	return OK
}

func areFracs(list []Frac) bool {
	return !slices.ContainsFunc(list, func(a Frac) bool { return !ValidFrac(a) })
}

// ofList checks a list with at least so many fractions and calculates one of them.
func ofList(list []Frac, least int, calculate func([]Frac) Frac) (Frac, int64) {
	if code := checkList(list, ValidFrac, least); code != OK {
		return Frac{}, code
	}
	return told(func() Frac { return calculate(list) })
}

func sumOf(list []Frac) Frac {
	sum := fitting(0, 1)
	for _, a := range list {
		sum = sum.plus(a)
	}
	return sum
}

// valuesBy returns the fractions for which the items of a list stand.
func valuesBy[T averaged](list []T, value func(T) Frac) []Frac {
	values := make([]Frac, len(list))
	for i, x := range list {
		values[i] = value(x)
	}
	return values
}

// meanBy returns the mean of what a list has, each item standing for a fraction.
func meanBy[T averaged](list []T, value func(T) Frac) Frac {
	return sumOf(valuesBy(list, value)).over(fitting(int64(len(list)), 1))
}

func meanOfFracs(list []Frac) Frac {
	return meanBy(list, func(a Frac) Frac { return a })
}

func middleOf(list []Frac) Frac {
	sorted := sortedFracs(list)
	half := len(sorted) / 2
	if len(sorted)%2 == 1 {
		return sorted[half]
	}
	return meanOfFracs(sorted[half-1 : half+1])
}

// sortedFracs returns a list in order: equal fractions are one key of a map,
// so that only different ones have to be put in order.
func sortedFracs(list []Frac) []Frac {
	times := map[Frac]int{}
	var different []Frac
	for _, a := range list {
		if times[a] == 0 {
			different = append(different, a)
		}
		times[a]++
	}
	slices.SortFunc(different, Frac.order)
	var sorted []Frac
	for _, a := range different {
		for range times[a] {
			sorted = append(sorted, a)
		}
	}
	return sorted
}

// wordsOf returns the texts of fractions, separated by blanks.
func wordsOf(list []Frac) string {
	var words []string
	for _, a := range list {
		words = append(words, FracText(a))
	}
	return strings.Join(words, " ")
}

// readWords returns the fractions that have the given texts, separated by
// blanks: at least one, and at most so many.
func readWords(text string, most int) ([]Frac, int64) {
	// If there are more words, the last one keeps its blanks and is no fraction.
	var list []Frac
	for _, word := range strings.SplitN(text, " ", most) {
		a, code := ReadFrac(word)
		if code != OK {
			return nil, code
		}
		list = append(list, a)
	}
	return list, OK
}

// lowest returns p / q in lowest terms. q is not 0, and the parts are far
// enough from the least integer to have their signs changed.
func lowest(p, q int64) Frac {
	if q < 0 {
		p, q = -p, -q
	}
	d := commonDivisor(p, q)
	return fitting(p/d, q/d)
}

// fitting returns p / q, which is in lowest terms, or panics if it is not valid.
func fitting(p, q int64) Frac {
	if isGreater(p, MaxPart) || q > MaxPart {
		panic(tooGreat{P: p, Q: q})
	}
	return Frac{P: p, Q: q}
}

// isGreater compares without changing a sign: the least integer has no size.
func isGreater(n, most int64) bool { return n < -most || n > most }

// commonDivisor returns the greatest common divisor of p and q, and 0 if both
// are 0; q is at least 0.
func commonDivisor(p, q int64) int64 {
	for p != 0 {
		p, q = q%p, p
	}
	return max(q, -q)
}

// floorDiv returns the greatest integer that is at most p / q; q is greater than 0.
func floorDiv(p, q int64) int64 {
	if p%q < 0 {
		return p/q - 1
	}
	return p / q
}

// nearestDiv returns the integer that is at most half of one more than p / q,
// and less than half of one less: the greatest one at most p / q + 1/2. q is
// greater than 0.
func nearestDiv(p, q int64) int64 { return floorDiv(2*p+q, 2*q) }
