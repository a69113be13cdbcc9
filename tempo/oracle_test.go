package tempo_test

import (
	"regexp"
	"strconv"
	"strings"
	"testing"

	"tempo/api"
	"tempo/tempo"
)

func decimal(n int) string { return strconv.Itoa(n) }

// The oracle finds formulas in another way than the program: it rewrites the
// text from the inside out, until one rune that stands for the whole is left.
const (
	boundRune   = 0x40000 // and b of an interval
	endlessRune = 0x50000
	wholeRune   = 0x60000 // and the horizon of a formula
)

var (
	oracleInterval = regexp.MustCompile(`\[(0|[1-9][0-9]{0,3}),(0|[1-9][0-9]{0,3}|i)\]`)
	oracleAtom     = regexp.MustCompile(`[0-7t]`)
	oracleSigns    = regexp.MustCompile(`[0-7t!&|OHSFGU]`)
	oracleRewrite  = spellRunes(`!W|\(W[&|]W\)|[OH]EW|\(WSEW\)|[FG]BW|\(WUBW\)`)
)

// spellRunes lets the rewriting be written with letters: W for a formula, B for
// an interval with an end, E for any interval.
func spellRunes(s string) *regexp.Regexp {
	return regexp.MustCompile(strings.NewReplacer(
		"W", `[\x{60000}-\x{6ffff}]`, "B", `[\x{40000}-\x{4ffff}]`, "E", `[\x{40000}-\x{50000}]`).Replace(s))
}

func oracleHorizon(text string) (int, api.Errno) {
	for i := range len(text) {
		if text[i] >= 0x80 {
			return 0, api.ErrArg
		}
	}
	fit := true
	text = oracleInterval.ReplaceAllStringFunc(text, func(s string) string {
		m := oracleInterval.FindStringSubmatch(s)
		a, _ := strconv.Atoi(m[1])
		if m[2] == "i" {
			fit = fit && a <= 1000
			return string(rune(endlessRune))
		}
		b, _ := strconv.Atoi(m[2])
		fit = fit && a <= b && b <= 1000
		return string(rune(boundRune + b))
	})
	if !fit || len(oracleSigns.FindAllString(text, -1)) > 20 {
		return 0, api.ErrArg
	}
	text = oracleAtom.ReplaceAllString(text, string(rune(wholeRune)))
	for before := ""; before != text; {
		before = text
		text = oracleRewrite.ReplaceAllStringFunc(text, oracleJoin)
	}
	if runes := []rune(text); len(runes) == 1 && runes[0] >= wholeRune {
		return int(runes[0] - wholeRune), api.OK
	}
	return 0, api.ErrArg
}

func oracleJoin(s string) string {
	horizon, ahead := 0, 0
	for _, r := range s {
		if r >= wholeRune {
			horizon = max(horizon, int(r-wholeRune))
		} else if r >= boundRune && r < endlessRune && strings.ContainsAny(s, "FGU") {
			ahead = int(r - boundRune)
		}
	}
	return string(rune(wholeRune + horizon + ahead))
}

func compareWithOracle(t *testing.T, text string) bool {
	t.Helper()
	want, wantError := oracleHorizon(text)
	got, gotError := tempo.Horizon(text)
	if got != want || gotError != wantError {
		t.Errorf("P3: Horizon(%q) = %d, %d, want %d, %d", text, got, gotError, want, wantError)
	}
	return wantError == api.OK
}

const oracleAlphabet = "078t!&|()OHSFGU[],i1 a\x00\xff"

func TestAllShortTexts(t *testing.T) {
	const alphabet = "07t!&|()F[],i1"
	formulas := 0
	texts := []string{""}
	for length := 0; length <= 5; length++ {
		var longer []string
		for _, text := range texts {
			if compareWithOracle(t, text) {
				formulas++
			}
			if length == 5 {
				continue
			}
			for i := range len(alphabet) {
				longer = append(longer, text+alphabet[i:i+1])
			}
		}
		texts = longer
	}
	if formulas == 0 {
		t.Errorf("no short text was a formula")
	}
}

// manyFormulas are texts of each kind over each other, to be marred.
func manyFormulas() []string {
	small := []string{"0", "t", "!7", "O[0,i]1", "F[1,12]2"}
	all := append([]string(nil), small...)
	for i, f := range small {
		g := small[(i+3)%len(small)]
		all = append(all, "!"+f, "O[10,1000]"+f, "H[2,i]"+f, "F[9,99]"+f, "G[0,0]"+f,
			"("+f+"&"+g+")", "("+f+"|"+g+")", "("+f+"S[3,i]"+g+")", "("+f+"S[0,20]"+g+")", "("+f+"U[7,500]"+g+")")
	}
	middle := all[:len(all):len(all)]
	for i, f := range middle[:20] {
		g := middle[len(middle)-1-i]
		all = append(all, "F[5,10]("+f+"U[0,1]"+g+")", "!("+g+"S[1,i]"+f+")")
	}
	return append(all,
		strings.Repeat("!", 18)+"0", strings.Repeat("!", 19)+"0", strings.Repeat("F[1000,1000]", 19)+"0",
		strings.Repeat("(0&", 9)+"1"+strings.Repeat(")", 9), "!"+strings.Repeat("(0&", 9)+"1"+strings.Repeat(")", 9))
}

func TestMarredFormulas(t *testing.T) {
	for _, formula := range manyFormulas() {
		if !compareWithOracle(t, formula) {
			t.Errorf("%q is to be a formula", formula)
		}
		for at := 0; at <= len(formula); at++ {
			for i := range len(oracleAlphabet) {
				sign := oracleAlphabet[i : i+1]
				compareWithOracle(t, formula[:at]+sign+formula[at:])
				if at < len(formula) {
					compareWithOracle(t, formula[:at]+sign+formula[at+1:])
				}
			}
			if at < len(formula) {
				compareWithOracle(t, formula[:at]+formula[at+1:])
			}
			compareWithOracle(t, formula[at:])
			compareWithOracle(t, formula[:at])
		}
	}
}

func FuzzHorizon(f *testing.F) {
	for _, formula := range manyFormulas() {
		f.Add(formula)
	}
	f.Fuzz(func(t *testing.T, text string) { compareWithOracle(t, text) })
}
