package attr_test

import (
	"math/big"
	"math/rand"
	"regexp"
	"strings"
	"testing"

	"limelight/attr"
)

func TestIndex(t *testing.T) {
	low, high := -(1 << 31), 1<<31-1
	for s, want := range map[string]int{
		"0": 0, "7": 7, "12": 12, "-12": -12, "+12": 12, " +12x": 12, "007": 7, "-0": 0, "+0": 0,
		" 5": 5, "\t5": 5, "\n5": 5, "\f5": 5, "\r5": 5, " \t\n\f\r \t-5": -5,
		"5 6": 5, "5-6": 5, "5+": 5, "5.9": 5, "5e3": 5, "5\x00": 5, "5\xff6": 5, "5\u00e96": 5, "5\u0661": 5, "5\t": 5,
		"2147483646": high - 1, "2147483647": high, "2147483648": high, "2147483649": high, "+4294967296": high,
		"-2147483647": low + 1, "-2147483648": low, "-2147483649": low, "-4294967296": low,
		"9223372036854775807": high, "9223372036854775808": high, "18446744073709551616": high, "-18446744073709551617": low,
		strings.Repeat("0", 1000) + "3": 3, strings.Repeat("9", 1000): high, "-" + strings.Repeat("9", 1000) + "x": low, strings.Repeat(" ", 1000) + "4": 4,
	} {
		if n, is := attr.Index(s); n != want || !is {
			t.Errorf("P2.3: %q: %d, %v", s, n, is)
		}
	}
}

func TestIndexOfNone(t *testing.T) {
	for _, s := range []string{
		"", " ", " \t\n\f\r", "-", "+", " -", "--1", "++1", "+-1", "-+1", "- 1", "+ 1", "-\t1", "x", "x1", ".5", "-.5", "-x1",
		"\v1", " \v1", "\x001", "\x1f1", "\u00a01", "\u20031", "\u00851", "\ufeff1", "\xff1", "-\xff1", "\u0661", "\uff11", "\u22121", "\xa01", "\x851",
	} {
		if n, is := attr.Index(s); n != 0 || is {
			t.Errorf("P2.3: %q: %d, %v", s, n, is)
		}
	}
}

// TestIndexAgainstTheWords: the same, as a pattern, with numbers of any size.
func TestIndexAgainstTheWords(t *testing.T) {
	form := regexp.MustCompile(`^[ \t\n\f\r]*([-+]?[0-9]+)`)
	low, high := big.NewInt(-1<<31), big.NewInt(1<<31-1)
	parts := []string{" ", "\t", "\v", "-", "+", "0", "1", "9", "214748364", "2147483647", "2147483648", "x", "\xff", "\u00e9"}
	r := rand.New(rand.NewSource(1))
	for range 50000 {
		s := ""
		for range r.Intn(6) {
			s += parts[r.Intn(len(parts))]
		}
		want, should := 0, false
		if m := form.FindStringSubmatch(s); m != nil {
			v, _ := new(big.Int).SetString(m[1], 10)
			if v.Cmp(low) < 0 {
				v = low
			}
			if v.Cmp(high) > 0 {
				v = high
			}
			want, should = int(v.Int64()), true
		}
		if n, is := attr.Index(s); n != want || is != should {
			t.Fatalf("P2.3: %q: %d, %v, not %d, %v", s, n, is, want, should)
		}
	}
}
