package glean_test

import (
	"fmt"
	"strings"
	"testing"

	"glean/api"
	"glean/glean"
)

// wantSourceFault compiles a source that has a fault.
func wantSourceFault(t *testing.T, source string, at int, e api.Errno) {
	t.Helper()
	if b, gotAt, got := glean.Compile(source); b != "" || gotAt != at || got != e {
		t.Errorf("Compile(%.200q) = %d bytes, %d, %d, want %d, %d", source, len(b), gotAt, got, at, e)
	}
}

// wantRight compiles a source without a fault.
func wantRight(t *testing.T, source string) string {
	t.Helper()
	b, at, e := glean.Compile(source)
	if b == "" || at != 0 || e != api.OK {
		t.Errorf("Compile(%.200q) = %d bytes, %d, %d", source, len(b), at, e)
		return ""
	}
	if function, at, e := glean.Check(b); function != 0 || at != 0 || e != api.OK {
		t.Errorf("Compile(%.200q): Check tells %d, %d, %d", source, function, at, e)
	}
	return b
}

// runSource plays a source without a fault.
func runSource(t *testing.T, source string, records []string, draws []int) api.State {
	t.Helper()
	b := wantRight(t, source)
	if b == "" {
		return api.State{}
	}
	x, e := glean.Open(b, records, draws)
	if e != api.OK {
		t.Errorf("%q: Open tells %d", source, e)
		return api.State{}
	}
	return play(x, api.MaxFuel)
}

// wantPrinted works an expression out, and tells its text.
func wantPrinted(t *testing.T, expr, want string) {
	t.Helper()
	if s := runSource(t, "BEGIN { print "+expr+"; }", nil, nil); s.Output != want+"\n" || s.Status != api.StEnded {
		t.Errorf("print %q: %+v, want %q", expr, s, want)
	}
}

func TestNumerals(t *testing.T) {
	for _, c := range []struct{ digits, want string }{
		{"0", "0"}, {"00", "0"}, {"7", "7"}, {"007", "7"}, {"10", "10"}, {"999999999", "999999999"}, {"1000000000", "1000000000"}, {"0001000000000", "1000000000"},
		{strings.Repeat("0", 900), "0"}, {strings.Repeat("0", 900) + "1000000000", "1000000000"}, {"63", "63"}, {"64", "64"}, {"8192", "8192"}, {"123456789", "123456789"},
	} {
		wantPrinted(t, c.digits, c.want)
	}
	for _, digits := range []string{"1000000001", "01000000001", "2000000000", "9999999999", "10000000000", "4294967296", "18446744073709551616", "18446744073709551617", strings.Repeat("9", 900), "1" + strings.Repeat("0", 900)} {
		wantSourceFault(t, "BEGIN { print "+digits+"; }", 14, api.ErrSyntax)
		wantSourceFault(t, digits, 0, api.ErrSyntax)
		wantSourceFault(t, "BEGIN "+digits, 6, api.ErrSyntax)
	}
	wantSourceFault(t, "BEGIN { x = 1x; }", 13, api.ErrSyntax)
	wantSourceFault(t, "BEGIN { x = 1 2; }", 14, api.ErrSyntax)
	wantSourceFault(t, "BEGIN { x = 1.; }", 14, api.ErrSyntax) // . is an operator
	wantPrinted(t, "1.2", "12")
	wantPrinted(t, "1 .02", "12")
}

func TestStrings(t *testing.T) {
	for _, c := range []struct{ written, want string }{
		{`""`, ""}, {`"a"`, "a"}, {`"#"`, "#"}, {`"a # b"`, "a # b"}, {`"/"`, "/"}, {`"'"`, "'"}, {"\"\t\"", "\t"}, {"\"\x00\xff\r\"", "\x00\xff\r"},
		{`"\n"`, "\n"}, {`"\t"`, "\t"}, {`"\""`, `"`}, {`"\\"`, `\`}, {`"\\n"`, `\n`}, {`"\\\n"`, "\\\n"}, {`"\\\""`, `\"`}, {`"a\tb\nc\"d\\e"`, "a\tb\nc\"d\\e"}, {`"BEGIN"`, "BEGIN"},
		{`"` + as(100) + `"`, as(100)}, {`"` + strings.Repeat(`\\`, 100) + `"`, strings.Repeat(`\`, 100)}, {`"` + as(99) + `\t"`, as(99) + "\t"}, {`"é"`, "é"},
	} {
		wantPrinted(t, c.written, c.want)
	}
	for b := range 256 {
		one := string([]byte{byte(b)})
		switch one {
		case `"`:
			wantPrinted(t, `""`, "")
		case `\`, "\n":
			wantSourceFault(t, `BEGIN { print "`+one+`; }`, 14, api.ErrSyntax)
		default:
			wantPrinted(t, `"`+one+`"`, one)
		}
		if !strings.Contains(`nt"\`, one) {
			wantSourceFault(t, `BEGIN { print "\`+one+`"; }`, 14, api.ErrSyntax)
			wantSourceFault(t, `BEGIN { print "ab\`+one+`", "c"; }`, 14, api.ErrSyntax)
		}
	}
	for _, written := range []string{
		`"`, `"a`, `"a\`, `"a\"`, `"\\\"`, "\"a\nb\"", "\"\n\"", "\"a\n", "\"a\\\n\"", `"` + as(101) + `"`, `"` + as(100) + `\n"`, `"` + as(500) + `"`, `"` + as(101), `"` + strings.Repeat(`\t`, 101) + `"`,
	} {
		wantSourceFault(t, "BEGIN { print "+written, 14, api.ErrSyntax)
		wantSourceFault(t, "BEGIN { print  1 . "+written+"; }", 19, api.ErrSyntax)
		wantSourceFault(t, written, 0, api.ErrSyntax)
	}
}

func TestRegexes(t *testing.T) {
	for _, c := range []struct {
		written, text string
		want          int
	}{
		{"//", "", 1}, {"/a/", "ba", 1}, {"/a/", "b", 0}, {"/=/", "a=b", 1}, {"/=/", "ab", 0}, {"/#/", "#", 1}, {"/\"/", "\"", 1}, {`/\//`, "a/b", 1}, {`/\//`, "ab", 0}, {`/\\/`, `\`, 1}, {`/\\/`, "a", 0}, {`/\n/`, "n", 1}, {`/\n/`, "\n", 0},
		{"/ /", "a b", 1}, {"/\t/", "\t", 1}, {"/[ab]/", "xb", 1}, {`/[\/]/`, "/", 1}, {"/\x00/", "\x00", 1}, {"/\xff/", "\xff", 1}, {"/" + as(50) + "/", as(50), 1}, {"/" + as(50) + "/", as(49), 0}, {"/(a|b)+$/", "xab", 1}, {`/\"/`, `"`, 1}, {"/=a/", "=a", 1},
	} {
		out := fmt.Sprintf("%d\n", c.want)
		if s := runSource(t, "{ print $0 ~ "+c.written+"; }", []string{c.text}, nil); s.Output != out {
			t.Errorf("%q ~ %s: %+v, want %q", c.text, c.written, s, out)
		}
		if s := runSource(t, c.written+" { x = 1; } END { print 0 + x; }", []string{c.text}, nil); s.Output != out {
			t.Errorf("%s of %q: %+v, want %q", c.written, c.text, s, out)
		}
	}
	for _, written := range []string{
		"/", "/a", `/a\/`, `/\`, "/a\n/", "/\n", "/a\\\n/", "/a\\", "/(/", "/a)/", "/*/", "/[b-a]/", "/[]/", "/[^]/", "/[/", "/[/]/", "/a|*/", "/" + as(51) + "/", "/" + as(500) + "/", `/[\/`, "/+=/", "/?/",
	} {
		wantSourceFault(t, "{ print "+written, 8, api.ErrSyntax)
		wantSourceFault(t, "{ print 1, $0 ~ "+written+"; }", 16, api.ErrSyntax)
		wantSourceFault(t, written, 0, api.ErrSyntax)
	}
}

func TestWhatASlashIs(t *testing.T) {
	for _, ahead := range []string{
		"{ x = 1", `{ x = "a"`, "{ x = /a/", "{ x", "{ x = (1)", "{ x = f()", "{ a[1]", "{ x = getline", "{ x = draw", "{ x = NF", "{ x = NR", "{ x = $1", "{ x = $y", "{ x = length(1)", "{ x = 1 in a",
	} {
		isTarget := ahead == "{ x" || ahead == "{ a[1]"
		const behind = "; } function f() { }"
		if ahead == "{ x = 1 in a" {
			wantSourceFault(t, ahead+" / 2"+behind, len(ahead)+1, api.ErrSyntax) // it divides, but nothing that may be divided
			continue
		}
		wantRight(t, ahead+" / 2"+behind)
		wantRight(t, ahead+"/2"+behind)
		wantRight(t, ahead+" # a /\n / 2 / 3"+behind)
		wantSourceFault(t, ahead+" /a/"+behind, len(ahead)+4, api.ErrSyntax)
		wantSourceFault(t, ahead+" //"+behind, len(ahead)+2, api.ErrSyntax) // the second one begins a regex, which is open
		wantSourceFault(t, ahead+" /a/ / 2"+behind, len(ahead)+5, api.ErrSyntax)
		if isTarget {
			wantRight(t, ahead+" /= 2"+behind)
			wantRight(t, ahead+"/=2"+behind)
			wantRight(t, ahead+" /= /a/"+behind)
			wantRight(t, ahead+"/=/=/"+behind)
		} else if ahead != "{ x = $1" && ahead != "{ x = $y" {
			wantSourceFault(t, ahead+" /= 2"+behind, len(ahead)+1, api.ErrSyntax)
			wantSourceFault(t, ahead+"/=/"+behind, len(ahead), api.ErrSyntax)
		}
	}
	for _, ahead := range []string{
		"", "{ ", "{ ; ", "{ } ", "{ x = ", "{ x += ", "{ x -= ", "{ x *= ", "{ x /= ", "{ x %= ", "{ x = 1 + ", "{ x = 1 - ", "{ x = 1 * ", "{ x = 1 / ", "{ x = 1 % ", "{ x = 1 . ", "{ x = 1 < ", "{ x = 1 <= ", "{ x = 1 == ",
		"{ x = 1 != ", "{ x = 1 > ", "{ x = 1 >= ", "{ x = 1 ~ ", "{ x = 1 !~ ", "{ x = ! ", "{ x = - ", "{ x = 1 && ", "{ x = 1 || ", "{ x = 1 ? ", "{ x = 1 ? 2 : ", "{ x = (", "{ a[", "{ print ", "{ print 1, ", "{ exit ", "{ x = $",
		"{ x = swap(", "{ x = match(1, ", "{ if (1) ; else ", "function f() { return ", "{ while (", "1, ",
	} {
		behind := ""
		switch {
		case ahead == "" || ahead == "{ } " || ahead == "1, ":
			behind = " { }"
		case strings.Contains(ahead, "? ") && !strings.Contains(ahead, ":"):
			behind = " : 1; }"
		case strings.HasSuffix(ahead, "swap("):
			behind = ", 1, 2); }"
		case strings.HasSuffix(ahead, "while ("):
			behind = ") ; }"
		case strings.HasSuffix(ahead, "("), strings.HasSuffix(ahead, "match(1, "):
			behind = "); }"
		case strings.HasSuffix(ahead, "["):
			behind = "]; }"
		default:
			behind = "; }"
		}
		for _, regex := range []string{"/a/", "//", "/=/", "/= 2/", "/ 2/"} {
			wantRight(t, ahead+regex+behind)
		}
		wantSourceFault(t, ahead+"/= 2; }", len(ahead), api.ErrSyntax)
		wantSourceFault(t, ahead+"/ 2", len(ahead), api.ErrSyntax)
	}
}

// A / behind words where neither may stand: the one that it is cannot.
func TestASlashWhereNoneMayStand(t *testing.T) {
	for _, ahead := range []string{"BEGIN", "END", "function", "{ if", "{ while", "{ for", "{ 1 in", "{ delete", "{ next", "{ break", "{ continue", "{ length", "{ substr", "{ index", "{ match", "{ span", "{ swap", "{ split"} {
		wantSourceFault(t, ahead+" /a/", len(ahead)+1, api.ErrSyntax)
		wantSourceFault(t, ahead+" / 2", len(ahead)+1, api.ErrSyntax)
	}
	wantSourceFault(t, "{ if (NF) /a/; }", 10, api.ErrSyntax)
	wantSourceFault(t, "{ while (NF) /a/; }", 13, api.ErrSyntax)
	wantSourceFault(t, "{ for (x in a) /a/; }", 15, api.ErrSyntax)
	wantSourceFault(t, "function f() /a/", 13, api.ErrSyntax)
	wantRight(t, "{ if (NF) (/a/); }")
	wantRight(t, "{ if (NF) ; /a/; }")
	wantRight(t, "/a/ { } /b/ { }")
	wantRight(t, "{ x /= 2; y = x / 2 / 1; }")
}

func TestComments(t *testing.T) {
	for _, source := range []string{
		"", " ", "\t\n", "#", "# a", "#\n", "#\n#", " # { ( \" / \n", "##", "BEGIN{}#", "BEGIN{}# }", "BEGIN # {\n{ # }\n} # }", "# \"\n{ # \"\n }", "#\x00\xff\r\n", strings.Repeat("#\n", 500), "#" + strings.Repeat("{", 999), strings.Repeat(" ", 1000), strings.Repeat("\n", 999) + "#",
	} {
		wantRight(t, source)
	}
	if s := runSource(t, "# one\nBEGIN { # two\nprint 1 # three\n, # four\n2; # print 3;\n } # five", nil, nil); s.Output != "1 2\n" {
		t.Errorf("%+v", s)
	}
	wantSourceFault(t, "# a\n}", 4, api.ErrSyntax)
	wantSourceFault(t, "{ # }", 5, api.ErrSyntax)
	wantSourceFault(t, "{ # }\n", 6, api.ErrSyntax)
	wantSourceFault(t, "{ x = 1 # ; }", 13, api.ErrSyntax)
	wantSourceFault(t, "BEGIN # a\n  ", 12, api.ErrSyntax)
	wantSourceFault(t, "{ print \"a#\nb\"; }", 8, api.ErrSyntax)
}

func TestWordsAndNames(t *testing.T) {
	words := strings.Fields(docWords)
	if len(words) != 26 {
		t.Fatalf("%d words", len(words))
	}
	for _, word := range words {
		wantSourceFault(t, "function "+word+"() { }", 9, api.ErrSyntax)
		wantSourceFault(t, "function f("+word+") { }", 11, api.ErrSyntax)
		wantSourceFault(t, "{ for ("+word+" in a) ; }", 7, api.ErrSyntax)
		wantSourceFault(t, "{ x in "+word+"; }", 7, api.ErrSyntax)
		for _, name := range []string{word + "x", word + "_", word + "1", "_" + word, "x" + word, word + word, word[:len(word)-1] + "_", strings.ToUpper(word) + "_", swapCase(word), word + "Q"} {
			wantRight(t, "function "+name+"("+name+"1) { return "+name+"1; } BEGIN { "+name+"2 = "+name+"(1); "+name+"3["+name+"2] = 1; }")
		}
	}
	for _, name := range []string{"a", "z", "A", "Z", "_", "__", "a0", "a9", "aZ_9", "Begin", "begin", "nf", "Nr", "If", "PRINT", xs(900)} {
		if s := runSource(t, "BEGIN{"+name+"=5;print "+name[:min(len(name), 40)]+";}", nil, nil); s.Status != api.StEnded {
			t.Errorf("%s: %+v", name, s)
		}
	}
	if s := runSource(t, "BEGIN { x = 1; X = 2; x1 = 3; _x = 4; x_ = 5; xx = 6; print x, X, x1, _x, x_, xx; }", nil, nil); s.Output != "1 2 3 4 5 6\n" {
		t.Errorf("%+v", s)
	}
	wantSourceFault(t, "BEGIN { 9a = 1; }", 9, api.ErrSyntax)
	wantSourceFault(t, "BEGINx { y; } x y { }", 16, api.ErrSyntax)
	wantSourceFault(t, "BEGIN{print1;}{print 1 2;}", 23, api.ErrSyntax) // print1 is a name
	wantRight(t, "BEGIN{print(1);}END{exit(1);}")
}

// swapCase is a word with its letters of the other size.
func swapCase(word string) string {
	if word == strings.ToUpper(word) {
		return strings.ToLower(word)
	}
	return strings.ToUpper(word)
}

func TestBytesThatBeginNothing(t *testing.T) {
	for b := range 256 {
		one := string([]byte{byte(b)})
		isLetter := b == '_' || 'a' <= b && b <= 'z' || 'A' <= b && b <= 'Z'
		isDigit := '0' <= b && b <= '9'
		isBlank := strings.Contains(" \t\n", one)
		switch {
		case isBlank:
			wantRight(t, one+"BEGIN"+one+"{"+one+"x"+one+"="+one+"1"+one+";"+one+"}"+one)
		case isLetter:
			wantRight(t, "BEGIN { x = "+one+"; }")
		case isDigit:
			wantRight(t, "BEGIN { x = "+one+"; }")
		case one == "#":
			wantSourceFault(t, "BEGIN { x = "+one+"; }", 16, api.ErrSyntax)
		case strings.Contains(docSigns, one) && one != "&" && one != "|":
			// A sign, or what begins a regex.
		default:
			wantSourceFault(t, "BEGIN { x = "+one+"; }", 12, api.ErrSyntax)
			wantSourceFault(t, "BEGIN { x "+one+"= 1; }", 10, api.ErrSyntax)
			wantSourceFault(t, one, 0, api.ErrSyntax)
			wantSourceFault(t, "BEGIN { }"+one, 9, api.ErrSyntax)
			wantSourceFault(t, "BEGIN { x"+one+"y = 1; }", 9, api.ErrSyntax)
		}
	}
	wantSourceFault(t, "{ x = y & z; }", 8, api.ErrSyntax)
	wantSourceFault(t, "{ x = y | z; }", 8, api.ErrSyntax)
	wantSourceFault(t, "{ x = y &| z; }", 8, api.ErrSyntax)
	wantSourceFault(t, "{ x = y & & z; }", 8, api.ErrSyntax)
	wantSourceFault(t, "{ x = y &&& z; }", 10, api.ErrSyntax)
	wantSourceFault(t, "{ x = y ||| z; }", 10, api.ErrSyntax)
	wantSourceFault(t, "{ x = y &", 8, api.ErrSyntax)
}

func TestSignsAreTheLongest(t *testing.T) {
	for _, source := range []string{
		"BEGIN{x=1<=2;x=1>=2;x=1==2;x=1!=2;x=1<2;x=1>2;x=1~/a/;x=1!~/a/;x=!1;x=1&&2;x=1||2;x=1?2:3;x+=1;x-=1;x*=2;x/=1;x%=1;}",
		"BEGIN{x=-1;x=1--1;x=1- -1;x=1*-1;x=!-1;x=!!1;x=-!1;x=1<-1;x=1==!2;x=1!=!2;x=1-1;x=$1-$2;x=$$1;x=1 .2;}",
		"BEGIN{a[1]=a[a[1]];a[1]+=1;$1=1;$1/=1;}",
	} {
		wantRight(t, source)
	}
	for _, c := range []struct {
		source string
		at     int
	}{
		{"{ x = 1 < = 2; }", 10}, {"{ x = 1 = = 2; }", 8}, {"{ x = 1 ! = 2; }", 8}, {"{ x = 1 ! ~ /a/; }", 8}, {"{ x + = 1; }", 6}, {"{ x - = 1; }", 6}, {"{ x * = 1; }", 6}, {"{ x / = 1; }", 6}, {"{ x % = 1; }", 6},
		{"{ x === 1; }", 6}, {"{ x =<= 1; }", 5}, {"{ x = 1 <== 2; }", 10}, {"{ x = 1 !== 2; }", 10}, {"{ x = 1 !~~ /a/; }", 10}, {"{ x =!~ /a/; }", 5}, {"{ x +== 1; }", 6}, {"{ x ++ 1; }", 5}, {"{ x++; }", 4}, {"{ x -= -= 1; }", 7}, {"{ x ** 2; }", 5}, {"{ x %% 2; }", 5}, {"{ x .. 2; }", 5}, {"{ x ?: 2; }", 5}, {"{ x << 2; }", 5}, {"{ x >> 2; }", 5}, {"{ x ~~ 2; }", 5}, {"{ x <> 2; }", 5}, {"{ x => 2; }", 5},
	} {
		wantSourceFault(t, c.source, c.at, api.ErrSyntax)
	}
	wantPrinted(t, "1--1, 1 - - 1, 3!=!2, 5*-1, !!7", "2 2 1 -5 1")
}
