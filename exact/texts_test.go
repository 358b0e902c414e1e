package exact_test

import (
	"strings"
	"testing"

	"putlog/api"
	"putlog/exact"
)

// P1.4: Format, of fractions in normal form or not.
func TestFormat(t *testing.T) {
	for _, x := range []struct {
		x    api.Rat
		want string
	}{
		{api.Rat{}, "0"},
		{api.Rat{Num: limbs(true), Den: limbs(true, 9)}, "0"},
		{r(7, 1), "7"},
		{r(-7, 1), "-7"},
		{r(-141, 100), "-141/100"},
		{api.Rat{Num: limbs(false, 4), Den: limbs(true, 6)}, "-2/3"},
		{api.Rat{Num: limbs(false, 4, 0), Den: limbs(false, 2, 0)}, "2"},
		{r(1000000000, 1), "1000000000"},
		{r(999999999, 1), "999999999"},
		{r(1000000001, 1000000000), "1000000001/1000000000"},
		{api.Rat{Num: limbs(false, 0, 0, 1)}, "18446744073709551616"},
		{api.Rat{Num: limbs(false, 1), Den: limbs(false, 0, 0, 1)}, "1/18446744073709551616"},
	} {
		want(t, "Format", exact.Format(x.x), 0, x.want, 0)
	}
	d := dice()
	for i := range 1000 {
		x := someRat(d, 1+i%12)
		a := bigRat(x)
		text := a.Num().String()
		if !a.IsInt() {
			text = a.String()
		}
		want(t, "Format", exact.Format(x), 0, text, 0)
	}
}

// P1.4: Parse reads what Format writes.
func TestParse(t *testing.T) {
	for _, s := range []string{"0", "7", "-7", "10", "-141/100", "1/2", "1000000000/999999999", "18446744073709551616", "-1/340282366920938463463374607431768211456"} {
		x, e := exact.Parse(s)
		want(t, "Parse of "+s, exact.Format(x), e, s, api.OK)
	}
	d := dice()
	for i := range 1000 {
		x := someRat(d, 1+i%12)
		y, e := exact.Parse(exact.Format(x))
		want(t, "Parse", y, e, ratOf(bigRat(x)), api.OK)
	}
}

// P1.4: ErrSyntax for every text that Format does not write.
func TestParseNoText(t *testing.T) {
	wrong := []string{
		"", "-", "/", "-/", "+1", "-0", "00", "01", "-01", "--1", " 1", "1 ", "1\n", "1,0", "1.5", "1e3", "0x1", "a", "1a", "1_000",
		"2/4", "1/1", "-3/1", "0/1", "0/5", "-0/5", "1/0", "1/", "/2", "-/2", "1/-2", "1/+2", "1/02", "1//2", "1/2/3", "1 /2", "1/ 2", "1/2 ", "1-", "1-2", "\x00", "1\x00", "٣", "１",
		":", "1:", "1/3:", "-:", ";/3",
	}
	for c := range 256 {
		if c < '0' || c > '9' {
			wrong = append(wrong, "1"+string([]byte{byte(c)}), string([]byte{byte(c), '/', '7'}))
		}
	}
	for _, s := range wrong {
		x, e := exact.Parse(s)
		want(t, "Parse of "+s, x, e, api.Rat{}, api.ErrSyntax)
	}
}

// P1.4: 800 bytes are not too many; 801 are, whatever they are.
func TestParseLongText(t *testing.T) {
	ones := strings.Repeat("1", 800)
	for _, s := range []string{ones, "-" + ones[:799], ones[:400] + "/" + "2" + strings.Repeat("0", 398), "1/" + strings.Repeat("9", 798)} {
		x, e := exact.Parse(s)
		want(t, "Parse of a long text", exact.Format(x), e, s, api.OK)
	}
	x, e := exact.Parse(strings.Repeat("x", 800))
	want(t, "Parse of a long text that is none", x, e, api.Rat{}, api.ErrSyntax)
	for _, s := range []string{ones + "1", "-" + ones, strings.Repeat("0", 801), strings.Repeat("x", 5000), ones + "/2"} {
		x, e := exact.Parse(s)
		want(t, "Parse of too long a text", x, e, api.Rat{}, api.ErrLarge)
	}
}
