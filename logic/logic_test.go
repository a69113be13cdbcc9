package logic_test

import (
	"reflect"
	"strings"
	"testing"

	"tempo/api"
	"tempo/logic"
)

func leaf(sign byte) logic.Formula { return logic.Formula{Sign: sign} }

func node(sign byte, within logic.Interval, parts ...logic.Formula) logic.Formula {
	return logic.Formula{Sign: sign, Within: within, Parts: parts}
}

func TestParseBuildsTheTree(t *testing.T) {
	none := logic.Interval{}
	for _, c := range []struct {
		text string
		want logic.Formula
	}{
		{"0", leaf('0')},
		{"7", leaf('7')},
		{"t", leaf('t')},
		{"!3", node('!', none, leaf('3'))},
		{"(0&t)", node('&', none, leaf('0'), leaf('t'))},
		{"(1|2)", node('|', none, leaf('1'), leaf('2'))},
		{"O[0,1000]5", node('O', logic.Interval{Low: 0, High: 1000}, leaf('5'))},
		{"H[7,i]5", node('H', logic.Interval{Low: 7, Endless: true}, leaf('5'))},
		{"F[10,20]6", node('F', logic.Interval{Low: 10, High: 20}, leaf('6'))},
		{"G[4,4]6", node('G', logic.Interval{Low: 4, High: 4}, leaf('6'))},
		{"(1S[2,3]4)", node('S', logic.Interval{Low: 2, High: 3}, leaf('1'), leaf('4'))},
		{"(1S[1000,i]4)", node('S', logic.Interval{Low: 1000, Endless: true}, leaf('1'), leaf('4'))},
		{"(4U[0,0]1)", node('U', none, leaf('4'), leaf('1'))},
		{"!(!0&F[1,2](1|t))", node('!', none, node('&', none,
			node('!', none, leaf('0')),
			node('F', logic.Interval{Low: 1, High: 2}, node('|', none, leaf('1'), leaf('t')))))},
	} {
		got, ok := logic.Parse(c.text)
		if !ok || !reflect.DeepEqual(got, c.want) {
			t.Errorf("Parse(%q) = %+v, %v, want %+v", c.text, got, ok, c.want)
		}
	}
}

func TestParseRefusesWithAnEmptyFormula(t *testing.T) {
	for _, text := range []string{"", "8", "!", "00", "(0&1", "O[0,1]", "F[0,i]0", strings.Repeat("!", api.MaxSize) + "0"} {
		got, ok := logic.Parse(text)
		if ok || !reflect.DeepEqual(got, logic.Formula{}) {
			t.Errorf("Parse(%q) = %+v, %v", text, got, ok)
		}
	}
}

func TestHorizonOfATree(t *testing.T) {
	far := logic.Interval{Low: 1, High: 9}
	for _, c := range []struct {
		formula logic.Formula
		want    int
	}{
		{leaf('t'), 0},
		{node('F', far, leaf('0')), 9},
		{node('G', far, node('F', far, leaf('0'))), 18},
		{node('O', far, leaf('0')), 0},
		{node('H', far, node('G', far, leaf('0'))), 9},
		{node('U', far, node('F', far, leaf('0')), leaf('1')), 18},
		{node('U', far, leaf('1'), node('F', far, leaf('0'))), 18},
		{node('S', far, leaf('1'), node('F', far, leaf('0'))), 9},
	} {
		if got := c.formula.Horizon(); got != c.want {
			t.Errorf("horizon of %+v is %d, want %d", c.formula, got, c.want)
		}
	}
}

func TestIntervalHas(t *testing.T) {
	for _, c := range []struct {
		within   logic.Interval
		distance int
		want     bool
	}{
		{logic.Interval{}, 0, true},
		{logic.Interval{}, 1, false},
		{logic.Interval{Low: 3, High: 5}, 2, false},
		{logic.Interval{Low: 3, High: 5}, 3, true},
		{logic.Interval{Low: 3, High: 5}, 5, true},
		{logic.Interval{Low: 3, High: 5}, 6, false},
		{logic.Interval{Low: 3, High: 5}, api.MaxTime, false},
		{logic.Interval{Low: 3, Endless: true}, 2, false},
		{logic.Interval{Low: 3, Endless: true}, 3, true},
		{logic.Interval{Low: 3, Endless: true}, api.MaxTime, true},
		{logic.Interval{Endless: true}, 0, true},
	} {
		if got := c.within.Has(c.distance); got != c.want {
			t.Errorf("%+v has %d: %v", c.within, c.distance, got)
		}
	}
}

func TestMomentHas(t *testing.T) {
	for set := range 256 {
		m := logic.Moment{Time: 5, Set: byte(set)}
		rest := set
		for proposition := range api.Props {
			if got := m.Has(proposition); got != (rest%2 == 1) {
				t.Errorf("%d has %d: %v", set, proposition, got)
			}
			rest /= 2
		}
	}
}
