package types

import (
	"math"
	"regexp"
	"slices"
	"strings"
	"testing"

	"arbiter/api"
)

// The patterns say 'The texts' a second time, by other means than the package; the length of names and the limits are looked at beside them.
const (
	nameForm = `[a-zA-Z_$][a-zA-Z_$0-9]*(?:/[a-zA-Z_$][a-zA-Z_$0-9]*)*`
	typeForm = `\[*(?:I|L` + nameForm + `;)`
)

var (
	namePattern  = regexp.MustCompile(`\A` + nameForm + `\z`)
	typePattern  = regexp.MustCompile(`\A` + typeForm + `\z`)
	typesPattern = regexp.MustCompile(typeForm)
	descPattern  = regexp.MustCompile(`\A\(((?:` + typeForm + `)*)\)(V|` + typeForm + `)\z`)
)

func isName(s string) bool {
	return len(s) <= api.MaxName && namePattern.MatchString(s)
}

// typeByPattern answers what Parse must answer.
func typeByPattern(s string) (api.Type, api.Errno) {
	if len(s) > api.MaxDesc {
		return api.Type{}, api.ErrLarge
	}
	if !typePattern.MatchString(s) {
		return api.Type{}, api.ErrText
	}
	dims := strings.Count(s, "[")
	name := strings.Trim(s, "[;")
	if name == "I" && !strings.HasSuffix(s, ";") {
		name = ""
	} else if name = name[1:]; len(name) > api.MaxName {
		return api.Type{}, api.ErrText
	}
	if dims > api.MaxDims {
		return api.Type{}, api.ErrLarge
	}
	return api.Type{Dims: dims, Name: name}, api.OK
}

// refByPattern answers what ParseRef must answer.
func refByPattern(s string) (api.Type, api.Errno) {
	switch {
	case len(s) > api.MaxDesc:
		return api.Type{}, api.ErrLarge
	case strings.HasPrefix(s, "["):
		return typeByPattern(s)
	case isName(s):
		return api.Type{Name: s}, api.OK
	}
	return api.Type{}, api.ErrText
}

// descByPattern answers what ParseDesc must answer.
func descByPattern(s string) (api.Desc, api.Errno) {
	if len(s) > api.MaxDesc {
		return api.Desc{}, api.ErrLarge
	}
	m := descPattern.FindStringSubmatch(s)
	if m == nil {
		return api.Desc{}, api.ErrText
	}
	texts := typesPattern.FindAllString(m[1], -1)
	if m[2] != "V" {
		texts = append(texts, m[2])
	}
	var all []api.Type
	large := false
	for _, text := range texts {
		x, err := typeByPattern(text)
		if err == api.ErrText {
			return api.Desc{}, err
		}
		large = large || err == api.ErrLarge
		all = append(all, x)
	}
	d := api.Desc{Args: all, Void: m[2] == "V"}
	if !d.Void {
		d.Args, d.Ret = all[:len(all)-1], all[len(all)-1]
	}
	if large || len(d.Args) > api.MaxArgs {
		return api.Desc{}, api.ErrLarge
	}
	return d, api.OK
}

func TestDescOf(t *testing.T) {
	for _, size := range []int{1999, 2000, 2001, 2002} {
		if got := len(descOf(size)); got != size {
			t.Errorf("descOf(%d) has %d bytes", size, got)
		}
	}
}

func sameDesc(a, b api.Desc) bool {
	return slices.Equal(a.Args, b.Args) && a.Void == b.Void && a.Ret == b.Ret
}

// shortTexts are all texts of at most most bytes of the alphabet.
func shortTexts(alphabet string, most int) []string {
	all := []string{""}
	from := 0
	for range most {
		to := len(all)
		for _, head := range all[from:to] {
			for i := range len(alphabet) {
				all = append(all, head+alphabet[i:i+1])
			}
		}
		from = to
	}
	return all
}

func nameOf(size int) string { return strings.Repeat("n", size) }

func dims(n int) string { return strings.Repeat("[", n) }

// descOf is a descriptor of size bytes (from 1119 on) that answers nothing: 18 classes with long names, and dimensions for the rest.
func descOf(size int) string {
	const classes = 18
	rest := size - len("()V") - classes*len("L;") - classes*api.MaxName
	var args strings.Builder
	for range classes {
		n := min(rest, api.MaxDims)
		rest -= n
		args.WriteString(dims(n) + "L" + nameOf(api.MaxName) + ";")
	}
	return "(" + args.String() + ")V"
}

// soundTypes are sound types with the edges that the document names, and their texts.
func soundTypes() map[string]api.Type {
	long := nameOf(api.MaxName)
	return map[string]api.Type{
		"I": {}, "[I": {Dims: 1}, "[[I": {Dims: 2}, dims(254) + "I": {Dims: 254}, dims(api.MaxDims) + "I": {Dims: api.MaxDims},
		"LI;": {Name: "I"}, "[LI;": {Dims: 1, Name: "I"}, "LV;": {Name: "V"}, "LL;": {Name: "L"}, "LA;": {Name: "A"},
		"Lp/A;": {Name: "p/A"}, "[Lp/A;": {Dims: 1, Name: "p/A"}, "[[[L$a/_1;": {Dims: 3, Name: "$a/_1"}, "LObject;": {Name: "Object"}, "LLI/L;": {Name: "LI/L"},
		"L" + long + ";": {Name: long}, dims(api.MaxDims) + "L" + long + ";": {Dims: api.MaxDims, Name: long},
	}
}

// unsoundTypes are types that Check refuses.
func unsoundTypes() []api.Type {
	return []api.Type{
		{Dims: -1}, {Dims: -1, Name: "A"}, {Dims: api.MaxDims + 1}, {Dims: api.MaxDims + 1, Name: "A"}, {Dims: math.MinInt}, {Dims: math.MaxInt, Name: "A"},
		{Name: "1"}, {Dims: 1, Name: "1"}, {Dims: api.MaxDims, Name: "1"}, {Name: "p//A"}, {Name: "/"}, {Name: "LA;"}, {Name: "A;"}, {Name: "[A"}, {Name: " "}, {Name: "\x00"}, {Name: "<init>"}, {Name: "A\xff"}, {Name: "é"},
		{Name: nameOf(api.MaxName + 1)}, {Dims: -1, Name: "1"}, {Dims: 256, Name: "1"}, {Name: nameOf(100000)},
	}
}

// oddTexts are texts of any bytes, with the edges that the document names.
func oddTexts() []string {
	odd := []string{
		"", "p/A", "L;", "II", "V", "[", "[[", "Lp/A", "L", ";", "I;", "LA;;", "LA;I", "I[", "[I[", "IV", "[V", "[]I", "I[]", "LA", "[LA", "LA/;", "L/A;", "LA//B;", "L1;", "LA;LB;", "L[A;", "L[I;", "LA B;", " I", "I ", "I\n", "\x00", "I\x00", "\xff", "L\xff;", "Lé;", "i", "lA;", "LA:", "L<init>;", "Object", "LL;", "LI;",
		"()", "()V", "()I", "(V)V", "()VV", "(I", "(I)", "I)V", ")V", "(", ")", "((I)V", "((I))V", "(I))V", "(I)V)", "(I)V ", " (I)V", "()[", "()[V", "([)V", "([V)V", "([)I", "(I[)V", "(L)V", "(L;)V", "(LA)V", "(LA;)LA", "(LA;)LA;", "(LA;)LA;;", "(LA;)LA;I", "()()", "()V()V", "(I,I)V", "(I I)V", "(I)\x00", "(\x00)V", "(\xff)V", "(A)V", "(p/A)V", "()A", "(LA;[[LB;I)[LC;", "[()V", "(LV;)LV;", "(L);)V", "(LA);)V", "()L);",
		dims(255) + "I", dims(256) + "I", dims(256) + "X", dims(256), dims(255) + "V", dims(256) + "V", dims(256) + "LA;", dims(256) + "LA", dims(256) + "II", dims(1999) + "I", dims(2000) + "I", dims(2000), dims(2001), dims(100000),
		"L" + nameOf(60) + ";", "L" + nameOf(61) + ";", nameOf(60), nameOf(61), nameOf(2000), nameOf(2001), "L" + nameOf(1998) + ";", "L" + nameOf(1999) + ";", dims(256) + "L" + nameOf(61) + ";",
		"(" + dims(255) + "I)V", "(" + dims(256) + "I)V", "()" + dims(255) + "I", "()" + dims(256) + "I", "(" + dims(256) + "X)V", "(" + dims(256) + "I)X", "(" + dims(256) + "I)", "(" + dims(256) + ")V", "()" + dims(256) + "V", "(I" + dims(256) + "LA;I)V", "(I" + dims(256) + "LA;I", "(L" + nameOf(61) + ";)V", "()L" + nameOf(61) + ";",
		strings.Repeat("x", 2000), strings.Repeat("x", 2001), strings.Repeat("(", 2000), strings.Repeat(")", 5000), strings.Repeat(";", 5000), strings.Repeat("L", 2000), strings.Repeat("I", 2000),
		descOf(1999), descOf(2000), descOf(2001), descOf(2002), descOf(2000)[1:], descOf(2001)[1:], descOf(2000) + "V", descOf(2001)[:2000],
	}
	for _, n := range []int{1, 19, 20, 21, 22, 100, 1997, 1998} {
		args := strings.Repeat("I", n)
		odd = append(odd, "("+args+")V", "("+args+")I", "("+args+")", "("+args, "("+args+"V)V", "("+args+")VV", "("+args+")X", "("+strings.Repeat("[LA;", n)+")LA;")
	}
	for b := range 256 {
		x := string([]byte{byte(b)})
		odd = append(odd, x, "["+x, "L"+x+";", "I"+x, x+"I", "LA"+x, "LA"+x+";", "("+x+")V", "()"+x, "()V"+x, x+"()V", "(I"+x+")V", "(I"+x+"V", "("+x+"I)V")
	}
	return odd
}

// R3: beside an error stands the zero value.
func checkType(t *testing.T, call string, s string, got api.Type, err api.Errno, want api.Type, wantErr api.Errno) {
	t.Helper()
	if got != want || err != wantErr {
		t.Errorf("%s(%.80q) = %v, %d; want %v, %d", call, s, got, err, want, wantErr)
	}
}

// P2.1

func TestCheck(t *testing.T) {
	for s, x := range soundTypes() {
		if err := Check(x); err != api.OK {
			t.Errorf("Check(%v) of %q = %d", x, s, err)
		}
	}
	for _, x := range unsoundTypes() {
		if err := Check(x); err != api.ErrForm {
			t.Errorf("Check(%v) = %d", x, err)
		}
	}
}

func TestCheckAllDims(t *testing.T) {
	for _, name := range []string{"", "A", "p/A", "1", "p/"} {
		for n := -300; n <= 600; n++ {
			want := api.ErrForm
			if n >= 0 && n <= 255 && (name == "" || isName(name)) {
				want = api.OK
			}
			if err := Check(api.Type{Dims: n, Name: name}); err != want {
				t.Errorf("Check({%d %q}) = %d", n, name, err)
			}
		}
	}
}

func TestCheckAllNames(t *testing.T) {
	for _, name := range shortTexts("A/1;[ ", 5) {
		want := api.ErrForm
		if name == "" || isName(name) {
			want = api.OK
		}
		if err := Check(api.Type{Name: name}); err != want {
			t.Errorf("Check({0 %q}) = %d", name, err)
		}
	}
}

// P2.2

func TestParseExamples(t *testing.T) {
	for s, want := range map[string]api.Type{"I": {}, "Lp/A;": {Name: "p/A"}, "[[I": {Dims: 2}, "[LI;": {Dims: 1, Name: "I"}} {
		got, err := Parse(s)
		checkType(t, "Parse", s, got, err, want, api.OK)
	}
	for _, s := range []string{"", "p/A", "L;", "II", "V", "[", "Lp/A"} {
		got, err := Parse(s)
		checkType(t, "Parse", s, got, err, api.Type{}, api.ErrText)
	}
}

func TestParseErrorsInOrder(t *testing.T) {
	for s, want := range map[string]api.Errno{
		dims(255) + "I":                            api.OK,
		dims(256) + "I":                            api.ErrLarge,
		dims(256) + "X":                            api.ErrText,
		dims(256):                                  api.ErrText,
		dims(256) + "II":                           api.ErrText,
		dims(256) + "LA":                           api.ErrText,
		dims(256) + "L" + nameOf(61) + ";":         api.ErrText,
		dims(255) + "V":                            api.ErrText,
		dims(1999) + "I":                           api.ErrLarge,
		dims(2000) + "I":                           api.ErrLarge,
		strings.Repeat("x", api.MaxDesc):           api.ErrText,
		strings.Repeat("x", api.MaxDesc+1):         api.ErrLarge,
		"L" + nameOf(60) + ";":                     api.OK,
		"L" + nameOf(61) + ";":                     api.ErrText,
		"L" + nameOf(api.MaxDesc-2) + ";":          api.ErrText,
		"L" + nameOf(api.MaxDesc-1) + ";":          api.ErrLarge,
		dims(255) + "L" + nameOf(60) + ";":         api.OK,
		dims(256) + "L" + nameOf(60) + ";":         api.ErrLarge,
		dims(api.MaxDesc-len("LA;")) + "LA;":       api.ErrLarge,
		dims(api.MaxDesc-len("LA;")) + "LA;" + "x": api.ErrLarge,
	} {
		if got, err := Parse(s); err != want || err != api.OK && got != (api.Type{}) {
			t.Errorf("Parse of %d bytes %.20q = %v, %d; want %d", len(s), s, got, err, want)
		}
	}
}

func TestParseByPattern(t *testing.T) {
	for _, s := range append(shortTexts("[ILA/;V1", 5), oddTexts()...) {
		want, wantErr := typeByPattern(s)
		got, err := Parse(s)
		checkType(t, "Parse", s, got, err, want, wantErr)
	}
}

func TestText(t *testing.T) {
	for want, x := range soundTypes() {
		if s, err := Text(x); s != want || err != api.OK {
			t.Errorf("Text(%v) = %q, %d", x, s, err)
		}
	}
	for _, x := range unsoundTypes() {
		if s, err := Text(x); s != "" || err != api.ErrForm {
			t.Errorf("Text(%v) = %q, %d", x, s, err)
		}
	}
}

// P2.3

func TestParseRefExamples(t *testing.T) {
	for s, want := range map[string]api.Type{"p/A": {Name: "p/A"}, "I": {Name: "I"}, "V": {Name: "V"}, "L": {Name: "L"}, "[I": {Dims: 1}, "[LI;": {Dims: 1, Name: "I"}, "[Lp/A;": {Dims: 1, Name: "p/A"}, nameOf(60): {Name: nameOf(60)}, dims(255) + "I": {Dims: 255}} {
		got, err := ParseRef(s)
		checkType(t, "ParseRef", s, got, err, want, api.OK)
	}
	for _, s := range []string{"", "Lp/A;", "LA;", "[", "[V", "[p/A", "[A", "[LA", "[II", "I;", "p/", "()V", nameOf(61), nameOf(api.MaxDesc), dims(256) + "X", dims(256), "A["} {
		got, err := ParseRef(s)
		checkType(t, "ParseRef", s, got, err, api.Type{}, api.ErrText)
	}
	for _, s := range []string{dims(256) + "I", dims(256) + "LA;", nameOf(api.MaxDesc + 1), strings.Repeat("/", api.MaxDesc+1), dims(api.MaxDesc + 1)} {
		got, err := ParseRef(s)
		checkType(t, "ParseRef", s, got, err, api.Type{}, api.ErrLarge)
	}
}

func TestParseRefByPattern(t *testing.T) {
	for _, s := range append(shortTexts("[ILA/;V1", 5), oddTexts()...) {
		want, wantErr := refByPattern(s)
		got, err := ParseRef(s)
		checkType(t, "ParseRef", s, got, err, want, wantErr)
	}
}

func TestRefText(t *testing.T) {
	for text, x := range soundTypes() {
		want, wantErr := text, api.OK
		switch {
		case text == "I":
			want, wantErr = "", api.ErrArg
		case x.Dims == 0:
			want = x.Name
		}
		if s, err := RefText(x); s != want || err != wantErr {
			t.Errorf("RefText(%v) = %q, %d; want %q, %d", x, s, err, want, wantErr)
		}
	}
	if s, err := RefText(api.Type{Dims: 1, Name: "p/A"}); s != "[Lp/A;" || err != api.OK {
		t.Errorf("RefText of an array = %q, %d", s, err)
	}
	for _, x := range unsoundTypes() {
		if s, err := RefText(x); s != "" || err != api.ErrForm {
			t.Errorf("RefText(%v) = %q, %d", x, s, err)
		}
	}
}

// P2.4

func TestParseDescExamples(t *testing.T) {
	class := api.Type{Name: "p/A"}
	array := api.Type{Dims: 1, Name: "p/A"}
	for s, want := range map[string]api.Desc{
		"()V":                   {Void: true},
		"()I":                   {},
		"(I)V":                  {Args: []api.Type{{}}, Void: true},
		"(I[Lp/A;)I":            {Args: []api.Type{{}, array}},
		"(Lp/A;I[[ILp/A;)[I":    {Args: []api.Type{class, {}, {Dims: 2}, class}, Ret: api.Type{Dims: 1}},
		"()[Lp/A;":              {Ret: array},
		"([Lp/A;)Lp/A;":         {Args: []api.Type{array}, Ret: class},
		"(LV;)LV;":              {Args: []api.Type{{Name: "V"}}, Ret: api.Type{Name: "V"}},
		"(" + dims(255) + "I)V": {Args: []api.Type{{Dims: 255}}, Void: true},
	} {
		if d, err := ParseDesc(s); !sameDesc(d, want) || err != api.OK {
			t.Errorf("ParseDesc(%q) = %v, %d", s, d, err)
		}
	}
	for _, s := range []string{"", "(V)V", "()", "I", "()VV", "(I", "(I)", "([)V", "()[", "()[V", "(IV)I", "([V)I", "()IV", "()VI", "()II", "()V ", "(I)V)", "((I)V", "I)V", "V"} {
		if d, err := ParseDesc(s); !sameDesc(d, api.Desc{}) || err != api.ErrText {
			t.Errorf("ParseDesc(%q) = %v, %d", s, d, err)
		}
	}
}

func TestParseDescErrorsInOrder(t *testing.T) {
	many := strings.Repeat("I", 21)
	for s, want := range map[string]api.Errno{
		"(" + many[1:] + ")V":                  api.OK,
		"(" + many[1:] + ")I":                  api.OK,
		"(" + many + ")V":                      api.ErrLarge,
		"(" + many + ")I":                      api.ErrLarge,
		"(" + many:                             api.ErrText,
		"(" + many + ")":                       api.ErrText,
		"(" + many + ")VV":                     api.ErrText,
		"(" + many + "V)V":                     api.ErrText,
		"(" + many + "L1;)V":                   api.ErrText,
		"(" + dims(256) + "I)V":                api.ErrLarge,
		"(" + dims(256) + "I)":                 api.ErrText,
		"(" + dims(256) + "I":                  api.ErrText,
		"(" + dims(256) + "V)V":                api.ErrText,
		"(I" + dims(256) + "LA;I)I":            api.ErrLarge,
		"(I" + dims(256) + "LA;X)I":            api.ErrText,
		"()" + dims(255) + "I":                 api.OK,
		"()" + dims(256) + "I":                 api.ErrLarge,
		"()" + dims(256) + "V":                 api.ErrText,
		"()" + dims(256) + "II":                api.ErrText,
		"()" + dims(256):                       api.ErrText,
		descOf(api.MaxDesc):                    api.OK,
		descOf(api.MaxDesc + 1):                api.ErrLarge,
		descOf(api.MaxDesc)[1:]:                api.ErrText,
		descOf(api.MaxDesc)[:api.MaxDesc-1]:    api.ErrText,
		descOf(api.MaxDesc-1) + "V":            api.ErrText,
		descOf(api.MaxDesc) + "V":              api.ErrLarge,
		strings.Repeat("x", api.MaxDesc):       api.ErrText,
		strings.Repeat("x", api.MaxDesc+1):     api.ErrLarge,
		"(" + strings.Repeat("I", 1997) + ")V": api.ErrLarge,
		"(" + strings.Repeat("I", 1997) + ")X": api.ErrText,
		"(" + strings.Repeat("I", 1998) + ")X": api.ErrLarge,
	} {
		if d, err := ParseDesc(s); err != want || err != api.OK && !sameDesc(d, api.Desc{}) {
			t.Errorf("ParseDesc of %d bytes %.40q = %v, %d; want %d", len(s), s, d, err, want)
		}
	}
}

func TestParseDescByPattern(t *testing.T) {
	texts := append(shortTexts("()[ILA;V", 6), oddTexts()...)
	for _, inner := range shortTexts("[ILA;V", 5) {
		texts = append(texts, "("+inner+")V", "()"+inner)
	}
	for _, s := range texts {
		want, wantErr := descByPattern(s)
		if d, err := ParseDesc(s); !sameDesc(d, want) || err != wantErr {
			t.Errorf("ParseDesc(%.80q) = %v, %d; want %v, %d", s, d, err, want, wantErr)
		}
	}
}

// Texts that are a beginning of a sound text, or that have something behind it, or a byte turned.
func TestParseDescBroken(t *testing.T) {
	for _, whole := range []string{"()V", "(I)I", "(I[Lp/A;)I", "(Lp/A;I[[ILp/A;)[I", "(LA;[[LB;I)[LC;", "([[[I)Lp/q/R;"} {
		var texts []string
		for i := range len(whole) {
			texts = append(texts, whole[:i], whole[i+1:], whole[:i]+whole[i+1:])
			for b := range 256 {
				texts = append(texts, whole[:i]+string([]byte{byte(b)})+whole[i+1:], whole[:i]+string([]byte{byte(b)})+whole[i:])
			}
		}
		for _, tail := range []string{"I", "V", ")", ";", " ", "\x00", whole} {
			texts = append(texts, whole+tail)
		}
		for _, s := range texts {
			want, wantErr := descByPattern(s)
			if d, err := ParseDesc(s); !sameDesc(d, want) || err != wantErr {
				t.Errorf("ParseDesc(%q) = %v, %d; want %v, %d", s, d, err, want, wantErr)
			}
		}
	}
}

func TestDescText(t *testing.T) {
	for want, d := range map[string]api.Desc{
		"()I":                                {},
		"()V":                                {Void: true},
		"()LA;":                              {Ret: api.Type{Name: "A"}},
		"(I[Lp/A;)I":                         {Args: []api.Type{{}, {Dims: 1, Name: "p/A"}}},
		"(LI;[[I)[LV;":                       {Args: []api.Type{{Name: "I"}, {Dims: 2}}, Ret: api.Type{Dims: 1, Name: "V"}},
		"([I)V":                              {Args: []api.Type{{Dims: 1}}, Void: true},
		"()" + dims(255) + "I":               {Ret: api.Type{Dims: 255}},
		"(" + strings.Repeat("I", 20) + ")V": {Args: make([]api.Type, 20), Void: true},
	} {
		if s, err := DescText(d); s != want || err != api.OK {
			t.Errorf("DescText(%v) = %q, %d; want %q", d, s, err, want)
		}
	}
	if s, err := DescText(api.Desc{Args: []api.Type{}}); s != "()I" || err != api.OK {
		t.Errorf("DescText with a list without elements = %q, %d", s, err)
	}
}

func refuseDesc(t *testing.T, d api.Desc, want api.Errno) {
	t.Helper()
	if s, err := DescText(d); s != "" || err != want {
		t.Errorf("DescText(%v) = %q, %d; want %d", d, s, err, want)
	}
}

func TestDescTextNotSound(t *testing.T) {
	for _, x := range unsoundTypes() {
		refuseDesc(t, api.Desc{Args: []api.Type{x}}, api.ErrForm)
		refuseDesc(t, api.Desc{Args: []api.Type{{}, {Name: "A"}, x}, Void: true}, api.ErrForm)
		refuseDesc(t, api.Desc{Ret: x}, api.ErrForm)
		refuseDesc(t, api.Desc{Void: true, Ret: x}, api.ErrForm)
		refuseDesc(t, api.Desc{Args: append(make([]api.Type, 30), x)}, api.ErrForm)
		refuseDesc(t, api.Desc{Args: make([]api.Type, 30), Ret: x}, api.ErrForm)
	}
	for _, ret := range []api.Type{{Name: "A"}, {Dims: 1}, {Dims: 1, Name: "A"}} {
		refuseDesc(t, api.Desc{Void: true, Ret: ret}, api.ErrForm)
		refuseDesc(t, api.Desc{Args: make([]api.Type, 30), Void: true, Ret: ret}, api.ErrForm)
	}
}

func TestDescTextLarge(t *testing.T) {
	refuseDesc(t, api.Desc{Args: make([]api.Type, 21)}, api.ErrLarge)
	refuseDesc(t, api.Desc{Args: make([]api.Type, 21), Void: true}, api.ErrLarge)
	refuseDesc(t, api.Desc{Args: make([]api.Type, 100000)}, api.ErrLarge)
	// 7 arrays of 255 dimensions over int have 1792 bytes, so that the last argument decides.
	args := slices.Repeat([]api.Type{{Dims: api.MaxDims}}, 7)
	for last := range api.MaxDims + 1 {
		for _, d := range []api.Desc{{Args: append(slices.Clone(args), api.Type{Dims: last}), Void: true}, {Args: args, Ret: api.Type{Dims: last}}} {
			size := len("()") + 7*256 + last + 1
			if d.Void {
				size++
			}
			if size > api.MaxDesc {
				refuseDesc(t, d, api.ErrLarge)
			} else if s, err := DescText(d); len(s) != size || err != api.OK {
				t.Errorf("DescText of %d bytes: %d bytes, %d", size, len(s), err)
			}
		}
	}
}

// P2.5

func TestArrayOf(t *testing.T) {
	for _, x := range soundTypes() {
		got, err := ArrayOf(x)
		if x.Dims == api.MaxDims {
			checkType(t, "ArrayOf", x.Name, got, err, api.Type{}, api.ErrLarge)
		} else {
			checkType(t, "ArrayOf", x.Name, got, err, api.Type{Dims: x.Dims + 1, Name: x.Name}, api.OK)
		}
	}
}

func TestComponent(t *testing.T) {
	for _, x := range soundTypes() {
		got, err := Component(x)
		if x.Dims == 0 {
			checkType(t, "Component", x.Name, got, err, api.Type{}, api.ErrNone)
		} else {
			checkType(t, "Component", x.Name, got, err, api.Type{Dims: x.Dims - 1, Name: x.Name}, api.OK)
		}
	}
}

func TestElement(t *testing.T) {
	for _, x := range soundTypes() {
		got, err := Element(x)
		checkType(t, "Element", x.Name, got, err, api.Type{Name: x.Name}, api.OK)
	}
}

func TestPartsOfUnsoundTypes(t *testing.T) {
	for _, x := range unsoundTypes() {
		got, err := ArrayOf(x)
		checkType(t, "ArrayOf", x.Name, got, err, api.Type{}, api.ErrForm)
		got, err = Component(x)
		checkType(t, "Component", x.Name, got, err, api.Type{}, api.ErrForm)
		got, err = Element(x)
		checkType(t, "Element", x.Name, got, err, api.Type{}, api.ErrForm)
	}
}

// P2.6

func TestArgs(t *testing.T) {
	for s, want := range map[string]int{"()V": 0, "()I": 0, "(I)V": 1, "(I[Lp/A;)I": 2, "(LI;[[[I)LA;": 2, "(" + strings.Repeat("[LA;", 20) + ")V": 20} {
		if n, err := Args(s); n != want || err != api.OK {
			t.Errorf("Args(%q) = %d, %d", s, n, err)
		}
	}
	for s, want := range map[string]api.Errno{"": api.ErrText, "(II": api.ErrText, "(V)V": api.ErrText, "(III)": api.ErrText, "I": api.ErrText, "(" + strings.Repeat("I", 21) + ")V": api.ErrLarge, "(" + dims(256) + "I)V": api.ErrLarge, descOf(2001): api.ErrLarge} {
		if n, err := Args(s); n != 0 || err != want {
			t.Errorf("Args(%.80q) = %d, %d; want %d", s, n, err, want)
		}
	}
	for _, s := range oddTexts() {
		d, wantErr := descByPattern(s)
		if n, err := Args(s); n != len(d.Args) || err != wantErr {
			t.Errorf("Args(%.80q) = %d, %d; want %d, %d", s, n, err, len(d.Args), wantErr)
		}
	}
}

// What follows: there and back.

func TestThereAndBackFromTypes(t *testing.T) {
	for _, name := range []string{"", "A", "I", "V", "L", "p/A", "$a/_1", nameOf(60)} {
		for n := range api.MaxDims + 1 {
			x := api.Type{Dims: n, Name: name}
			s, err := Text(x)
			if back, backErr := Parse(s); back != x || err != api.OK || backErr != api.OK {
				t.Errorf("Parse(Text(%v)) = %v, %d, %d", x, back, err, backErr)
			}
			if x == (api.Type{}) {
				continue
			}
			s, err = RefText(x)
			if back, backErr := ParseRef(s); back != x || err != api.OK || backErr != api.OK {
				t.Errorf("ParseRef(RefText(%v)) = %v, %d, %d", x, back, err, backErr)
			}
		}
	}
}

func TestThereAndBackFromTexts(t *testing.T) {
	for _, s := range append(shortTexts("[ILA/;", 6), oddTexts()...) {
		if x, err := Parse(s); err == api.OK {
			if back, backErr := Text(x); back != s || backErr != api.OK {
				t.Errorf("Text(Parse(%q)) = %q, %d", s, back, backErr)
			}
		}
		if x, err := ParseRef(s); err == api.OK {
			if back, backErr := RefText(x); back != s || backErr != api.OK {
				t.Errorf("RefText(ParseRef(%q)) = %q, %d", s, back, backErr)
			}
		}
	}
}

func TestThereAndBackOfDescs(t *testing.T) {
	texts := oddTexts()
	for _, inner := range shortTexts("[ILA;", 5) {
		texts = append(texts, "("+inner+")V", "("+inner+")I", "(I)"+inner)
	}
	taken := 0
	for _, s := range texts {
		d, err := ParseDesc(s)
		if err != api.OK {
			continue
		}
		taken++
		back, backErr := DescText(d)
		if back != s || backErr != api.OK {
			t.Errorf("DescText(ParseDesc(%q)) = %q, %d", s, back, backErr)
		}
		if again, againErr := ParseDesc(back); !sameDesc(again, d) || againErr != api.OK {
			t.Errorf("ParseDesc(DescText(%v)) = %v, %d", d, again, againErr)
		}
	}
	if taken < 100 {
		t.Errorf("only %d texts were taken", taken)
	}
}

// R4

func TestDescTextLeavesArgs(t *testing.T) {
	memory := []api.Type{{}, {Dims: 2, Name: "p/A"}, {Name: "B"}, {Dims: -7, Name: "behind"}}
	kept := slices.Clone(memory)
	for _, d := range []api.Desc{{Args: memory[:3], Void: true}, {Args: memory[:3], Ret: api.Type{Dims: -1}}, {Args: memory, Void: true}, {Args: memory[:0:2]}} {
		DescText(d)
		if !slices.Equal(memory, kept) {
			t.Fatalf("DescText changed its argument: %v", memory)
		}
	}
	if s, err := DescText(api.Desc{Args: memory[:3], Void: true}); s != "(I[[Lp/A;LB;)V" || err != api.OK {
		t.Errorf("what lies behind the list was read: %q, %d", s, err)
	}
}

func TestParseDescAnswersNewMemory(t *testing.T) {
	const s = "(I[Lp/A;LB;)I"
	first, _ := ParseDesc(s)
	second, _ := ParseDesc(s)
	want := slices.Clone(second.Args)
	for i := range first.Args {
		first.Args[i] = api.Type{Dims: -1, Name: "x"}
	}
	first.Args = append(first.Args[:1], api.Type{Dims: 9}, api.Type{Dims: 9}, api.Type{Dims: 9}, api.Type{Dims: 9})
	third, err := ParseDesc(s)
	if !slices.Equal(second.Args, want) || !slices.Equal(third.Args, want) || err != api.OK {
		t.Errorf("answers share memory: %v, %v", second, third)
	}
}

// P0.1: no call panics; what is answered is looked at in the tests above.
func TestAnyArgument(t *testing.T) {
	for _, s := range append(oddTexts(), strings.Repeat("(", 1<<20), strings.Repeat("[", 1<<20)+"I", "("+strings.Repeat("LA;", 1<<20)+")V") {
		Parse(s)
		ParseRef(s)
		ParseDesc(s)
		Args(s)
		for _, n := range []int{math.MinInt, -1, 0, 1, 255, 256, math.MaxInt} {
			x := api.Type{Dims: n, Name: s}
			Check(x)
			Text(x)
			RefText(x)
			ArrayOf(x)
			Component(x)
			Element(x)
			DescText(api.Desc{Args: []api.Type{x, {}}, Void: n == 0, Ret: x})
		}
	}
}
