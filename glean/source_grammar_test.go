package glean_test

import (
	"slices"
	"strings"
	"testing"

	"glean/api"
)

// ruleSources are sources without a fault for every rule of the grammar and
// each of its ways; their tokens have blanks between them.
func ruleSources() []string {
	return strings.Split(strings.TrimSpace(`
BEGIN { }
END { } BEGIN { } END { }
function f ( ) { }
function f ( p ) { } { f ( 1 ) ; }
function f ( p , q , r ) { p = q + r ; } { f ( 1 , 2 ) ; f ( ) ; }
x { }
x , y { }
/a/ , /b/ { } { }
{ }
{ { } }
{ ; ; }
{ if ( x ) ; }
{ if ( x ) ; else ; }
{ if ( x ) if ( y ) ; else ; else ; }
{ if ( x ) { } else if ( y ) { } else { } }
{ while ( x ) ; }
{ while ( x ) { break ; continue ; } }
{ for ( x in a ) ; }
{ for ( x in a ) for ( y in a ) { } }
{ print ; }
{ print x ; }
{ print x , 1 , "a" ; }
{ delete a ; }
{ delete a [ x ] ; }
{ next ; }
{ exit ; exit 1 ; }
function f ( ) { return ; return 1 ; }
{ x ; }
{ x = 1 ; x += 1 ; x -= 1 ; x *= 1 ; x /= 1 ; x %= 1 ; }
{ x = y = z += 1 ; }
{ a [ 1 ] = 2 ; a [ x ] ; }
{ a [ 1 ] = a [ a [ 2 ] ] ; }
{ $ 1 = 2 ; $ x = $ $ y ; $ a [ 1 ] = 3 ; $ ( 1 ) = 4 ; }
{ x = y ? 1 : 2 ; }
{ x ? y ? 1 : 2 : z ? 3 : 4 ; }
{ x ? y = 1 : z = 2 ; }
{ x || y || z ; }
{ x && y && z || w ; }
{ x in a in b ; }
{ x ~ /a/ !~ /b/ in a ; }
{ x < y ; x <= y ; x == y ; x != y ; x > y ; x >= y ; }
{ x . y . z < 1 . 2 ; }
{ x + y - z . 1 ; }
{ x * y / z % w + 1 ; }
{ ! x ; - x ; ! - ! x * - y ; }
{ 1 ; "a" ; /a/ ; ( x ) ; ( ( x ) ) ; NF ; NR ; getline ; draw ; }
{ length ( x ) ; }
{ substr ( x , 1 ) ; substr ( x , 1 , 2 ) ; }
{ index ( x , y ) ; }
{ match ( x , /a/ ) ; span ( x , /a/ ) ; }
{ swap ( /a/ , x , y ) ; }
{ split ( x , a , /a/ ) ; }
{ print ( x = 1 ) + ( y ? 1 : 2 ) ; }
`), "\n")
}

// Each source of the rules, with each token left out, doubled, changed into
// each other one; and as far as each token.
func TestTheGrammarByTheWords(t *testing.T) {
	t.Parallel()
	for _, source := range ruleSources() {
		t.Run(source, func(t *testing.T) {
			t.Parallel()
			holdNeighbours(t, source)
		})
	}
}

func holdNeighbours(t *testing.T, source string) {
	t.Helper()
	others := strings.Fields(docWords + " " + docSigns + ` x 1 "s" /r/ @`)
	list := strings.Fields(source)
	hold := func(tokens []string) { holdSource(t, strings.Join(tokens, " ")) }
	hold(list)
	holdSource(t, strings.Join(list, ""))
	for i := range list {
		hold(list[:i])
		hold(slices.Delete(slices.Clone(list), i, i+1))
		hold(slices.Insert(slices.Clone(list), i, list[i]))
		for _, other := range others {
			changed := slices.Clone(list)
			changed[i] = other
			hold(changed)
		}
		if i > 0 {
			swapped := slices.Clone(list)
			swapped[i], swapped[i-1] = swapped[i-1], swapped[i]
			hold(swapped)
		}
	}
}

func TestEveryRuleHasARightSource(t *testing.T) {
	for _, source := range ruleSources() {
		wantRight(t, source)
	}
}

// The first token that cannot stand there.
func TestSyntaxFaults(t *testing.T) {
	for _, c := range []struct {
		source string
		at     int
	}{
		// What begins no item.
		{"}", 0}, {")", 0}, {";", 0}, {"BEGIN { };", 9}, {"print 1;", 0}, {"return;", 0}, {"else { }", 0}, {"in { }", 0}, {"] { }", 0}, {"= { }", 0}, {", { }", 0}, {"* { }", 0}, {"~ /a/ { }", 0}, {"if (1) { }", 0}, {"{ } }", 4}, {"{ } ; { }", 4}, {"{ } + { }", 4},
		// Items.
		{"BEGIN BEGIN { }", 6}, {"BEGIN END { }", 6}, {"BEGIN x { }", 6}, {"BEGIN ( ) { }", 6}, {"END ; ", 4}, {"function { }", 9}, {"function ( ) { }", 9}, {"function f { }", 11}, {"function f ( { }", 13}, {"function f ( , ) { }", 13}, {"function f ( a , ) { }", 17}, {"function f ( a b ) { }", 15}, {"function f ( 1 ) { }", 13}, {"function f ( a [ 1 ] ) { }", 15}, {"function f ( ) ; ", 15}, {"function f ( ) x { }", 15}, {"function 1 ( ) { }", 9}, {"function f ( a = 1 ) { }", 15},
		{"x y { }", 2}, {"x , { }", 4}, {"x , y , z { }", 6}, {"x ;", 2}, {"x = { }", 4}, {"x , y ;", 6}, {"1 { } 2 ; ", 8}, {"/a/ /b/ { }", 8},
		// Statements.
		{"{ print 1 }", 10}, {"{ x = 1 }", 8}, {"{ x = 1 y = 2 ; }", 8}, {"{ if x ; }", 5}, {"{ if ( ) ; }", 7}, {"{ if ( x ; ) }", 9}, {"{ if ( x ) }", 11}, {"{ if ( x ) else ; }", 11}, {"{ else ; }", 2}, {"{ if ( x ) ; ; else ; }", 15}, {"{ if ( x ) y else ; }", 13}, {"{ if ( x ) { } ; else ; }", 17}, {"{ if ( x , y ) ; }", 9},
		{"{ while x ; }", 8}, {"{ while ( ) ; }", 10}, {"{ while ( x ) }", 14}, {"{ while ( x ; y ) ; }", 12}, {"{ for x in a ; }", 6}, {"{ for ( x ) ; }", 10}, {"{ for ( x in ) ; }", 13}, {"{ for ( 1 in a ) ; }", 8}, {"{ for ( x in 1 ) ; }", 13}, {"{ for ( ( x in a ) ) ; }", 8}, {"{ for ( x = 1 ; x ; x ) ; }", 10}, {"{ for ( ; ; ) ; }", 8}, {"{ for ( a [ 1 ] in a ) ; }", 10}, {"{ for ( $ 1 in a ) ; }", 8}, {"{ for ( x in a in b ) ; }", 15}, {"{ for ( x in a ) }", 17}, {"{ for ( x in a [ 1 ] ) ; }", 15},
		{"{ print , 1 ; }", 8}, {"{ print 1 , ; }", 12}, {"{ print 1 2 ; }", 10}, {"{ print ( 1 , 2 ) ; }", 12}, {"{ print ( ) ; }", 10}, {"{ print print ; }", 8}, {"{ print x = 1 > 2 > 3 ; }", 18}, {"{ delete ; }", 9}, {"{ delete 1 ; }", 9}, {"{ delete ( a ) ; }", 9}, {"{ delete a [ ] ; }", 13}, {"{ delete a [ 1 , 2 ] ; }", 15}, {"{ delete a [ 1 ] [ 2 ] ; }", 17}, {"{ delete a , b ; }", 11}, {"{ delete $ 1 ; }", 9}, {"{ delete a ( ) ; }", 11},
		{"{ next 1 ; }", 7}, {"{ next }", 7}, {"{ exit 1 , 2 ; }", 9}, {"{ exit }", 7}, {"{ break 1 ; }", 8}, {"{ continue x ; }", 11}, {"function f ( ) { return 1 , 2 ; }", 26}, {"function f ( ) { return }", 24}, {"{ BEGIN { } }", 2}, {"{ function f ( ) { } }", 2}, {"{ x , y ; }", 4}, {"{ { }", 5}, {"{ ; ", 4}, {"{ ( ; }", 4}, {"{ ) ; }", 2},
		// Expressions.
		{"{ 1 = 2 ; }", 4}, {"{ ( x ) = 1 ; }", 8}, {"{ ! x = 1 ; }", 6}, {"{ - x = 1 ; }", 6}, {"{ x + y = 1 ; }", 8}, {"{ x || y = 1 ; }", 9}, {"{ x in a = 1 ; }", 9}, {"{ x ~ /a/ = 1 ; }", 10}, {"{ f ( ) = 1 ; }", 8}, {"{ NF = 1 ; }", 5}, {"{ getline = 1 ; }", 10}, {"{ \"a\" = 1 ; }", 6}, {"{ /a/ += 1 ; }", 6}, {"{ x = 1 = 2 ; }", 8}, {"{ x = y + z = 2 ; }", 12}, {"{ x = ; }", 6}, {"{ ( x = 1 ) = 2 ; }", 12}, {"{ length ( x ) = 1 ; }", 15}, {"{ ( $ 1 ) = 2 ; }", 10}, {"{ ( a [ 1 ] ) += 2 ; }", 14}, {"{ x ? y : z + w = 1 ; }", 16}, {"{ x ? y + 1 = 2 : z ; }", 12}, {"{ x = 1 ? 2 : 3 = 4 ; }", 16},
		{"{ a [ ] ; }", 6}, {"{ a [ 1 ; }", 8}, {"{ a [ 1 , 2 ] ; }", 8}, {"{ a [ 1 ] [ 2 ] ; }", 10}, {"{ a [ 1 ] ( 2 ) ; }", 10}, {"{ ( a ) [ 1 ] ; }", 8}, {"{ ( f ) ( 1 ) ; }", 8}, {"{ 1 [ 2 ] ; }", 4}, {"{ 1 ( 2 ) ; }", 4}, {"{ $ ; }", 4}, {"{ $ - 1 ; }", 4}, {"{ $ ! 1 ; }", 4}, {"{ $ 1 [ 2 ] ; }", 6}, {"{ $ $ ; }", 6}, {"{ $ x ( ) [ 1 ] ; }", 10},
		{"{ x ? ; }", 6}, {"{ x ? y ; }", 8}, {"{ x ? y : ; }", 10}, {"{ x ? : z ; }", 6}, {"{ x : y ; }", 4}, {"{ x ? y : z : w ; }", 12}, {"{ x ? y , z : w ; }", 8}, {"{ x || ; }", 7}, {"{ || x ; }", 2}, {"{ x || || y ; }", 7}, {"{ x && ; }", 7}, {"{ x && || y ; }", 7}, {"{ x in ; }", 7}, {"{ x in 1 ; }", 7}, {"{ x in ( a ) ; }", 7}, {"{ x in a [ 1 ] ; }", 9}, {"{ x in a ( ) ; }", 9}, {"{ x in a + 1 ; }", 9}, {"{ x in a < 1 ; }", 9}, {"{ x in a ~ /a/ ; }", 9}, {"{ x in a . b ; }", 9}, {"{ in a ; }", 2},
		{"{ x ~ ; }", 6}, {"{ x ~ y ; }", 6}, {"{ x ~ \"a\" ; }", 6}, {"{ x ~ ( /a/ ) ; }", 6}, {"{ x !~ y ; }", 7}, {"{ ~ /a/ ; }", 2}, {"{ x ~ /a/ . y ; }", 10}, {"{ x ~ /a/ < y ; }", 10}, {"{ x ~ /a/ + y ; }", 10}, {"{ x ~ /a/ /b/ ; }", 10}, {"{ x < ; }", 6}, {"{ x < y < z ; }", 8}, {"{ x == y == z ; }", 9}, {"{ x < y >= z ; }", 8}, {"{ < x ; }", 2}, {"{ x . ; }", 6}, {"{ . x ; }", 2}, {"{ x + ; }", 6}, {"{ + x ; }", 2}, {"{ x + + y ; }", 6}, {"{ x * ; }", 6}, {"{ x * / y ; }", 6}, {"{ ! ; }", 4}, {"{ - ; }", 4}, {"{ x ! y ; }", 4}, {"{ x - ; }", 6},
		{"{ ( ) ; }", 4}, {"{ ( x ; }", 6}, {"{ ( x , y ) ; }", 6}, {"{ ( x y ) ; }", 6}, {"{ ( print ) ; }", 4}, {"{ ( { } ) ; }", 4}, {"{ f ( , ) ; }", 6}, {"{ f ( 1 , ) ; }", 10}, {"{ f ( 1 2 ) ; }", 8}, {"{ f ( 1 ; }", 8}, {"{ NF ( ) ; }", 5}, {"{ getline x ; }", 10}, {"{ getline ( ) ; }", 10}, {"{ draw ( ) ; }", 7}, {"{ x y ; }", 4}, {"{ x 1 ; }", 4}, {"{ 1 x ; }", 4}, {"{ \"a\" \"b\" ; }", 6},
		{"{ length ; }", 9}, {"{ length ( ) ; }", 11}, {"{ length ( x , y ) ; }", 13}, {"{ length x ; }", 9}, {"{ substr ( x ) ; }", 13}, {"{ substr ( x , ) ; }", 15}, {"{ substr ( x , 1 , ) ; }", 19}, {"{ substr ( x , 1 , 2 , 3 ) ; }", 21}, {"{ substr ( ) ; }", 11}, {"{ index ( x ) ; }", 12}, {"{ index ( x , y , z ) ; }", 16}, {"{ index ( ) ; }", 10}, {"{ match ( x , y ) ; }", 14}, {"{ match ( x ) ; }", 12}, {"{ match ( /a/ ) ; }", 14}, {"{ match ( x , /a/ , /b/ ) ; }", 18}, {"{ match ( x , ( /a/ ) ) ; }", 14}, {"{ match ( x , /a/ . \"b\" ) ; }", 18}, {"{ span ( x , y ) ; }", 13}, {"{ span ( x , \"a\" ) ; }", 13}, {"{ swap ( x , y , z ) ; }", 9}, {"{ swap ( /a/ ) ; }", 13}, {"{ swap ( /a/ , x ) ; }", 17}, {"{ swap ( /a/ , x , y , z ) ; }", 21}, {"{ swap ( /a/ . x , y , z ) ; }", 13}, {"{ split ( x ) ; }", 12}, {"{ split ( x , a ) ; }", 16}, {"{ split ( x , 1 , /a/ ) ; }", 14}, {"{ split ( x , a , y ) ; }", 18}, {"{ split ( x , a [ 1 ] , /a/ ) ; }", 16}, {"{ split ( x , a , /a/ , 1 ) ; }", 22}, {"{ split ( x , ( a ) , /a/ ) ; }", 14},
	} {
		wantSourceFault(t, c.source, c.at, api.ErrSyntax)
		if _, at, e := sourceByTheWords(c.source); at != c.at || e != api.ErrSyntax {
			t.Errorf("by the words %q is %d, %d", c.source, at, e)
		}
	}
}

// Where a source ends too early, its length is told, whatever stands behind the
// last token.
func TestSourcesThatEndTooEarly(t *testing.T) {
	for _, source := range ruleSources() {
		list := strings.Fields(source)
		for i := 1; i < len(list); i++ {
			begin := strings.Join(list[:i], " ")
			if strings.Count(begin, "{") == strings.Count(begin, "}") && strings.HasSuffix(begin, "}") {
				continue
			}
			for _, behind := range []string{"", " ", "\n\n", "# }", " # a\n\t"} {
				wantSourceFault(t, begin+behind, len(begin+behind), api.ErrSyntax)
			}
		}
	}
	wantSourceFault(t, strings.Repeat("(", 1000), 1000, api.ErrSyntax)
	wantSourceFault(t, strings.Repeat("{", 1000), 1000, api.ErrSyntax)
	wantSourceFault(t, strings.Repeat("!", 1000), 1000, api.ErrSyntax)
	wantSourceFault(t, strings.Repeat("$", 1000), 1000, api.ErrSyntax)
	wantSourceFault(t, "{"+strings.Repeat(" ", 999), 1000, api.ErrSyntax)
}

// An else belongs to the nearest if; operators of one level group from the
// left; levels.
func TestHowTokensGroup(t *testing.T) {
	for _, c := range []struct{ expr, want string }{
		{"7 - 2 - 1", "4"}, {"7 - (2 - 1)", "6"}, {"100 / 10 / 2", "5"}, {"100 / (10 / 2)", "20"}, {"17 % 10 % 4", "3"}, {"2 * 7 % 4", "2"}, {"2 + 3 * 4", "14"}, {"(2 + 3) * 4", "20"}, {"2 * 3 + 4", "10"}, {"8 / 2 * 4", "16"}, {"8 - 2 + 4", "10"},
		{"1 . 2 + 3", "15"}, {"1 + 2 . 3", "33"}, {"1 . 2 . 3", "123"}, {"2 * 3 . 4", "64"}, {"- 1 . 2", "-12"}, {"-2 * -3", "6"}, {"!0 + 1", "2"}, {"!(0 + 1)", "0"}, {"- - 5", "5"}, {"!!5", "1"}, {"-!0", "-1"}, {"!-0", "1"},
		{"1 . 2 < 3", "1"}, {"1 < 2 . 3", "1"}, {"(2 < 10) . 5", "15"}, {"1 + 1 == 2", "1"}, {"1 == 1 . \"\"", "1"}, {"!1 == 0", "1"}, {"!(1 == 0)", "1"}, {"(1 < 2) < 1", "0"}, {"2 > 1 ~ /1/", "1"}, {"2 > (1 ~ /1/)", "1"}, {"1 ~ /1/ ~ /1/", "1"}, {"0 ~ /1/ ~ /0/", "1"}, {"0 ~ /1/ !~ /0/", "0"},
		{"1 || 0 && 0", "1"}, {"(1 || 0) && 0", "0"}, {"0 && 0 || 1", "1"}, {"0 && (0 || 1)", "0"}, {"1 || 1 || 0", "1"}, {"1 && 1 && 0", "0"}, {"0 || 2", "1"}, {"3 && 2", "1"},
		{"1 ? 2 : 3", "2"}, {"0 ? 2 : 3", "3"}, {"0 ? 1 : 0 ? 2 : 3", "3"}, {"1 ? 0 ? 1 : 2 : 3", "2"}, {"(1 ? 0 : 1) ? 2 : 3", "3"}, {"1 || 0 ? 2 : 3", "2"}, {"0 ? 1 : 2 . 3", "23"}, {"1 ? 2 : 3 . 4", "2"}, {"1 < 2 ? 3 : 4", "3"},
		{"x = y = 5", "5"}, {"x = 1 ? 2 : 3", "2"}, {"x = 1 || 0", "1"}, {"1 ? x = 5 : 6", "5"}, {"0 ? 6 : x = 7", "7"}, {"(x = 2) + x", "4"}, {"x = 2 + 3", "5"}, {"x += y += 2", "2"}, {"(a[1] = 5) in a", "0"}, {"1 in a", "0"}, {"1 + 1 in a", "0"}, {"0 in a in a", "0"}, {"x . 1 in a", "0"}, {"! 1 in a", "0"}, {"!(1 in a)", "1"},
		{"$0 . 1", "1"}, {"-$0", "0"}, {"length(1 + 2 . 3)", "2"}, {"1 - -1", "2"}, {"1 - 1 ~ /0/", "1"},
	} {
		wantPrinted(t, c.expr, c.want)
	}
	for _, c := range []struct{ source, want string }{
		{"if (1) if (0) print 1; else print 2;", "2\n"}, {"if (0) if (0) print 1; else print 2;", ""}, {"if (0) if (0) print 1; else print 2; else print 3;", "3\n"}, {"if (1) { if (0) print 1; } else print 2;", ""}, {"if (0) { if (0) print 1; } else print 2;", "2\n"},
		{"if (1) while (0) ; else print 2;", ""}, {"if (0) while (0) ; else print 2;", "2\n"}, {"if (1) while (0) if (1) ; else print 1; else print 2;", ""}, {"if (0) for (x in a) if (1) ; else print 1; else print 2;", "2\n"}, {"if (0) print 1; else if (0) print 2; else print 3;", "3\n"},
	} {
		if s := runSource(t, "BEGIN { "+c.source+" }", nil, nil); s.Output != c.want || s.Status != api.StEnded {
			t.Errorf("%s: %+v, want %q", c.source, s, c.want)
		}
	}
	if s := runSource(t, "{ print $1 . 2, $NF - 1, -$2, !$3, $1 ~ /1/, $$1, $$1 . $2, $(1) + 1; $$2 = 9; print; }", []string{"1 2 3"}, nil); s.Output != "12 2 -2 0 1 1 12 2\n1 9 3\n" {
		t.Errorf("%+v", s)
	}
}
