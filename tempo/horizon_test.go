package tempo_test

import (
	"strings"
	"testing"

	"tempo/api"
	"tempo/tempo"
)

func wantHorizon(t *testing.T, promise, formula string, want int) {
	t.Helper()
	if got, e := tempo.Horizon(formula); got != want || e != api.OK {
		t.Errorf("%s: Horizon(%.60q) = %d, %d, want %d", promise, formula, got, e, want)
	}
}

func wantRefused(t *testing.T, promise, formula string) {
	t.Helper()
	if got, e := tempo.Horizon(formula); got != 0 || e != api.ErrArg {
		t.Errorf("%s: Horizon(%.60q) = %d, %d, want a refusal", promise, formula, got, e)
	}
}

func TestHorizonOfEachKind(t *testing.T) {
	for formula, want := range map[string]int{
		"0": 0, "1": 0, "2": 0, "3": 0, "4": 0, "5": 0, "6": 0, "7": 0, "t": 0,
		"!0": 0, "(0&1)": 0, "(0|1)": 0,
		"O[1,5]0": 0, "H[1,5]0": 0, "(0S[1,5]1)": 0,
		"F[1,5]0": 5, "G[1,5]0": 5, "(0U[1,5]1)": 5,
	} {
		wantHorizon(t, "P3", formula, want)
	}
}

func TestHorizonOfNested(t *testing.T) {
	for formula, want := range map[string]int{
		"F[1,5](0&F[0,7]1)":            12,
		"O[0,i]F[2,3]!4":               3,
		"!F[2,3]0":                     3,
		"H[4,9]G[2,3]0":                3,
		"G[2,3]H[4,9]0":                3,
		"(F[0,3]0&G[0,8]1)":            8,
		"(F[0,8]0|G[0,3]1)":            8,
		"(F[0,3]0S[0,99]G[0,8]1)":      8,
		"(F[0,8]0S[0,i]G[0,3]1)":       8,
		"(F[0,3]0U[0,10]G[0,8]1)":      18,
		"(F[0,8]0U[0,10]G[0,3]1)":      18,
		"((0U[0,2]1)U[0,3](2U[0,4]3))": 7,
		"F[0,1]G[0,2]F[0,4]!G[0,8]t":   15,
		"!!!(!0|!(1&!F[6,6]!2))":       6,
	} {
		wantHorizon(t, "P3", formula, want)
	}
}

func TestHorizonAtTheBounds(t *testing.T) {
	for _, sign := range []string{"O", "H"} {
		for _, within := range []string{"[0,0]", "[0,1000]", "[1000,1000]", "[999,1000]", "[10,10]", "[0,i]", "[1000,i]"} {
			wantHorizon(t, "P3", sign+within+"0", 0)
			wantHorizon(t, "P3", "(0S"+within+"1)", 0)
		}
	}
	for within, want := range map[string]int{"[0,0]": 0, "[0,1000]": 1000, "[1000,1000]": 1000, "[0,1]": 1, "[9,10]": 10, "[100,100]": 100} {
		wantHorizon(t, "P3", "F"+within+"0", want)
		wantHorizon(t, "P3", "G"+within+"0", want)
		wantHorizon(t, "P3", "(0U"+within+"1)", want)
	}
}

func TestEveryBound(t *testing.T) {
	for b := 0; b <= api.MaxBound; b++ {
		wantHorizon(t, "P3", "F[0,"+decimal(b)+"]0", b)
		wantHorizon(t, "P3", "G["+decimal(b)+","+decimal(b)+"]0", b)
		wantHorizon(t, "P3", "H["+decimal(b)+",i]0", 0)
		if b > 0 {
			wantRefused(t, "P3", "F["+decimal(b)+","+decimal(b-1)+"]0")
			wantRefused(t, "P3", "F[0,0"+decimal(b)+"]0")
			wantRefused(t, "P3", "O[0"+decimal(b)+",i]0")
		}
	}
	for b := api.MaxBound + 1; b <= 20*api.MaxBound; b++ {
		wantRefused(t, "P3", "F[0,"+decimal(b)+"]0")
		wantRefused(t, "P3", "H["+decimal(b)+",i]0")
	}
}

func TestHorizonRefusesWrongIntervals(t *testing.T) {
	withins := []string{
		"", "[", "]", "[]", "[,]", "[0]", "[0,]", "[,0]", "[0,1", "0,1]", "(0,1)", "[0,1)", "[0;1]", "[0.1]", "[0,1,2]", "[[0,1]]",
		"[0,1]]", "[2,1]", "[1000,0]", "[0,1001]", "[1001,1001]", "[00,1]", "[01,4]", "[0,04]", "[0,00]", "[0,01000]",
		"[+0,1]", "[0,+1]", "[-1,1]", "[0,-1]", "[0x1,2]", "[0,1e1]", "[ 0,1]", "[0 ,1]", "[0, 1]", "[0,1 ]", "[i,i]", "[i,1]", "[0,ii]", "[0,i1]", "[0,1i]", "[0,I]", "[0,\u0661]",
		"[0,4294967296]", "[0,4294967297]", "[0,9223372036854775808]", "[0,18446744073709551616]", "[0,18446744073709551617]", "[18446744073709551616,i]", "[4294967296,i]",
		"[1001,i]", "[0,i",
	}
	for _, within := range withins {
		for _, sign := range []string{"O", "H", "F", "G"} {
			wantRefused(t, "P3", sign+within+"0")
		}
		for _, sign := range []string{"S", "U"} {
			wantRefused(t, "P3", "(0"+sign+within+"1)")
		}
	}
	for _, formula := range []string{"F[0,i]0", "F[1,i]0", "G[0,i]0", "G[1000,i]0", "(0U[0,i]1)", "O[0,i]F[0,i]0", "![0,1]0", "(0&[0,1]1)", "0[0,1]", "t[0,1]"} {
		wantRefused(t, "P3", formula)
	}
}

func TestHorizonRefusesOtherTexts(t *testing.T) {
	for _, formula := range []string{
		"", " ", "8", "9", "T", "i", "o", "f", "x", "\x00", "0\x00", "\x000", "\xff", "0\xff", "é", "٠", "\n", "0\n",
		"()", "(0)", "((0&1))", "(t)", "0&1", "0|1", "0S[0,1]1", "0U[0,1]1", "(0&1&2)", "(0&1|2)", "(&0)", "(0&)", "(0!1)", "(0F[0,1]1)", "(0O[0,1]1)", "(01)", "(0t1)",
		"&", "|", "S", "U", "S[0,1]0", "U[0,1]0", "&01", "!", "!!", "0!", "O", "F[0,1]", "t!", ")", ")0(", "[0&1]", "{0&1}", "(0&1]", "(0&1}",
		" 0", "0 ", "(0& 1)", "( 0&1)", "(0&1) ", "! 0", "F [0,1]0", "F[0,1] 0", "\t0", "(0^1)", "(0||1)", "(0&&1)", "00", "tt", "0t", "(0&1)0", "(0&1))", "((0&1)", "F[0,1]00", "-0", "+1", "0.0",
	} {
		wantRefused(t, "P3", formula)
	}
}

func TestHorizonRefusesEveryByteThatIsNoFormula(t *testing.T) {
	for b := range 256 {
		text := string([]byte{byte(b)})
		if strings.Contains("01234567t", text) {
			wantHorizon(t, "P3", text, 0)
		} else {
			wantRefused(t, "P3", text)
		}
	}
}

func TestHorizonRefusesWhatIsCutOffOrHasSomethingBehind(t *testing.T) {
	for _, formula := range []string{"!!0", "(0&1)", "F[10,500](0|G[0,7]1)", "(!0S[2,i]O[3,40](1U[0,1000]t))"} {
		for end := range len(formula) {
			wantRefused(t, "P3", formula[:end])
		}
		for b := range 256 {
			wantRefused(t, "P3", formula+string([]byte{byte(b)}))
		}
		wantRefused(t, "P3", formula+formula)
	}
}

func TestSizes(t *testing.T) {
	pairs := func(sign string, n int) string {
		return strings.Repeat("(0"+sign, n) + "1" + strings.Repeat(")", n)
	}
	leftPairs := func(sign string, n int) string {
		return strings.Repeat("(", n) + "1" + strings.Repeat(sign+"0)", n)
	}
	for _, ahead := range []string{"!", "O[0,i]", "H[111,777]", "F[0,0]", "G[0,0]"} {
		wantHorizon(t, "P3", strings.Repeat(ahead, api.MaxSize-1)+"0", 0)
		wantRefused(t, "P3", strings.Repeat(ahead, api.MaxSize)+"0")
		wantRefused(t, "P3", strings.Repeat(ahead, api.MaxSize-1))
	}
	for _, between := range []string{"&", "|", "S[111,777]", "S[0,i]", "U[0,0]"} {
		for _, nest := range []func(string, int) string{pairs, leftPairs} {
			wantHorizon(t, "P3", nest(between, 9), 0)
			wantHorizon(t, "P3", "!"+nest(between, 9), 0)
			wantRefused(t, "P3", "!!"+nest(between, 9))
			wantRefused(t, "P3", nest(between, 10))
		}
	}
	wantHorizon(t, "P3", "(!"+pairs("&", 4)+"|"+pairs("|", 4)+")", 0)
	wantRefused(t, "P3", "(!"+pairs("&", 4)+"|!"+pairs("|", 4)+")")
}

func TestGreatestHorizon(t *testing.T) {
	for _, ahead := range []string{"F[1000,1000]", "G[0,1000]"} {
		wantHorizon(t, "P3", strings.Repeat(ahead, api.MaxSize-1)+"t", (api.MaxSize-1)*api.MaxBound)
	}
	wantHorizon(t, "P3", strings.Repeat("(0U[0,1000]", 9)+"F[0,1000]1"+strings.Repeat(")", 9), 10*api.MaxBound)
}

func TestVeryLongTextsEnd(t *testing.T) {
	const many = 20_000_000
	for _, piece := range []string{"!", "(", ")", "0", "t", "[", "O", "S", "&", " ", "\x00", "(0&", "F[0,1]", "(0U[0,1]", "O[0,i]", "(!"} {
		long := strings.Repeat(piece, many/len(piece))
		wantRefused(t, "P1", long)
		wantRefused(t, "P1", long+"0")
		wantRefused(t, "P1", "0"+long)
	}
	zeros, ones := strings.Repeat("0", many), strings.Repeat("1", many)
	for _, number := range []string{zeros, ones, "0" + ones, "1" + zeros} {
		wantRefused(t, "P1", "O["+number)
		wantRefused(t, "P1", "O["+number+",i]0")
		wantRefused(t, "P1", "F[0,"+number+"]0")
	}
	wantRefused(t, "P1", strings.Repeat("(0&", many)+"1"+strings.Repeat(")", many))
}
