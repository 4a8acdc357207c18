package driver

import (
	"fmt"
	"math/rand"
	"regexp"
	"strings"
	"testing"
)

func pick[T any](r *rand.Rand, from ...T) T {
	return from[r.Intn(len(from))]
}

// The names and references that random lines are made of; some are never there.
var (
	randomNames   = []string{"A", "A", "A", "B", "B", "p/A", "p/B", "I", "J", "p/K", "Object", "Cloneable", "No"}
	randomMethods = []string{"m()I", "m()I", "n(I)I", "n(I)I", "f()V", "f()V", "f()V", "o()LObject;", "o()LObject;", "id()I", "<init>()V", "none()V"}
)

// randomCode mostly runs to its end, and mostly writes something.
func randomCode(r *rand.Rand, end string) string {
	var lines []string
	for range r.Intn(4) {
		lines = append(lines, pick(r,
			"iconst "+fmt.Sprint(r.Intn(9)-4)+", print", "iconst 3, print", "new "+pick(r, randomNames...)+", printclass", "null, pop", "iconst 2, newarray I, printclass",
			"new "+pick(r, randomNames...)+", invokevirtual "+pick(r, randomNames...)+".m()I, print", "new "+pick(r, randomNames...)+", invokeinterface "+pick(r, "I", "J", "p/K")+":m()I, print", "invokestatic "+pick(r, randomNames...)+".f()V",
			"iconst 1, iconst 0, idiv, print", "null, arraylength", "pop", "goto 0"))
	}
	return strings.Join(append(lines, end), ", ")
}

func randomMethodLines(r *rand.Rand) []string {
	var out []string
	for _, head := range []string{"m ()I", "n (I)I", "f ()V", "o ()LObject;"} {
		end := map[byte]string{'m': "iconst 7, ireturn", 'n': "iload 0, ireturn", 'f': "return", 'o': "new " + pick(r, randomNames...) + ", areturn"}[head[0]]
		isStatic := head[0] != 'm' && r.Intn(8) > 0
		flags := pick(r, " public", " public", " public", "", " protected", " private")
		if isStatic {
			flags += " static"
		}
		if r.Intn(3) > 0 || head[0] == 'f' {
			out = append(out, method(head+flags, randomCode(r, end)))
		}
	}
	return out
}

func randomClass(r *rand.Rand) string {
	name := pick(r, randomNames[:10]...)
	text := class(name, pick(r, "Object", "Object", pick(r, randomNames...)), randomMethodLines(r)...)
	if strings.ContainsAny(name, "IJK") {
		text = iface(name, pick(r, method("m ()I public", "iconst 8, ireturn"), method("m ()I public abstract", ""), ""))
	}
	if r.Intn(3) == 0 {
		text = of(text, pick(r, "I", "J", "p/K", "A", "Cloneable"))
	}
	if r.Intn(12) == 0 {
		text = by(pick(r, "1", "10", "00", "x", ""), text)
	}
	if r.Intn(20) == 0 {
		text = spoilt(r, text)
	}
	return text
}

// spoilt turns, adds or leaves out one line.
func spoilt(r *rand.Rand, text string) string {
	all := strings.SplitAfter(text, "\n")
	at := r.Intn(len(all))
	other := pick(r, "", "\n", "#\n", "end\n", "define\n", "x\n", "chain A\n", " \n", "return\n", strings.Repeat("x", 2001)+"\n", "define \n", "end")
	all[at] = pick(r, other, all[at]+other, other+all[at])
	return strings.Join(all, "")
}

func randomNumber(r *rand.Rand) string {
	if r.Intn(15) == 0 {
		return pick(r, noNumbers...)
	}
	return pick(r, fmt.Sprint(r.Intn(80)-5), fmt.Sprint(r.Intn(20)), "0", pick(r, greatNumbers...))
}

func randomRun(r *rand.Rand) string {
	ref := pick(r, randomNames...) + pick(r, ".", ".", ".", ":") + pick(r, randomMethods...)
	words := []string{"run", ref}
	if strings.Contains(ref, "(I)") != (r.Intn(12) == 0) {
		words = append(words, randomNumber(r))
	}
	words = append(words, "fuel", pick(r, fmt.Sprint(r.Intn(60)), fmt.Sprint(r.Intn(60)), randomNumber(r)))
	if r.Intn(12) == 0 {
		words[r.Intn(len(words))] = pick(r, "", "x", "fuel", "run", "5", "A.f()V", "A.m")
	}
	if r.Intn(15) == 0 {
		words = words[:r.Intn(len(words))+1]
	}
	return strings.Join(words, " ")
}

func randomQuestion(r *rand.Rand) string {
	name, method := pick(r, randomNames...), pick(r, randomMethods...)
	ref := pick(r, randomNames...) + pick(r, ".", ".", ":") + method
	return pick(r,
		"select "+pick(r, "virtual", "interface", "special", "static")+" "+ref+" "+pick(r, name, "[I")+" from "+pick(r, randomNames...),
		"static "+ref+" from "+name, "resolve "+ref+" from "+name, "below L"+name+"; L"+pick(r, randomNames...)+";", "overrides "+ref+" "+pick(r, randomNames...)+"."+method,
		pick(r, "vtable ", "itable ", "display ", "chain ", "closure ", "methods ", "chains ", "chain  ")+name, pick(r, "chain", "below I", "select x", "static", "x", " ", "end", "fuel 5"))
}

// randomBytes are any, but mostly such as lines have.
func randomBytes(r *rand.Rand) string {
	text := make([]byte, r.Intn(12))
	for at := range text {
		text[at] = pick(r, byte(r.Intn(256)), ' ', '\n', '#', 'd', 'e', 'n', '0')
	}
	return string(text)
}

func randomLine(r *rand.Rand) string {
	switch r.Intn(22) {
	case 0, 1, 2, 3, 4:
		return randomClass(r)
	case 5, 6, 7, 8, 9, 10:
		return randomRun(r) + "\n"
	case 11, 12, 13, 14, 15:
		return randomQuestion(r) + "\n"
	case 16, 17:
		return "cache " + randomNumber(r) + "\n"
	case 18:
		return pick(r, "cache", "cache ", "cache 1 2", "define ", "define x", "defined", "caches 1", "runs", "#", "# define", "#x", "") + "\n"
	case 19:
		return pick(r, "x", "#", "chain A", "cache 1", "run A.f()V", "define ") + strings.Repeat(pick(r, "x", " ", "0"), 1980+r.Intn(40)) + "\n"
	case 20:
		return randomBytes(r) + "\n"
	}
	return "\n"
}

// randomScript ends anywhere, now and then.
func randomScript(r *rand.Rand) string {
	var script strings.Builder
	for range pick(r, 5, 20, 40, 80, 160) {
		script.WriteString(randomLine(r))
	}
	text := script.String()
	if r.Intn(3) == 0 {
		text = text[:r.Intn(len(text)+1)]
	}
	return text
}

// randomPieces cuts a text in pieces, of which some are empty.
func randomPieces(r *rand.Rand, text string) []string {
	var out []string
	for most := pick(r, 3, 20, 200, 3000); len(text) > 0; {
		size := min(len(text), r.Intn(most))
		out = append(out, text[:size])
		text = text[size:]
	}
	return out
}

// kinds are the answers that the random scripts are to have met.
var kinds = []string{
	`error 4`, `error 5`, `error 2`, `error 8`, `error 7`, `error 20`, `error 21`, `error 22`, `error 23`, `error 25`, `error 4 at [1-9][0-9]*`, `error 1 at 0`,
	`defined [0-9]+`, `cached`, `returned spent [0-9]+`, `returned -?[0-9]+ spent [0-9]+`, `returned ref [0-9]+ spent [0-9]+`, `thrown 20 spent [0-9]+`, `thrown 2[1-4] spent [0-9]+`, `thrown 26 spent [0-9]+`, `thrown 29 spent [0-9]+`, `thrown 35 spent [0-9]+`, `thrown 36 spent [0-9]+`,
	`> -?[0-9]+`, `> [\[A-Za-z].*`, `yes`, `no`, `primary Object.*`, `[0-9]+ .*`, `[A-Za-z/]+[.:][mnfo]\(I?\).*`,
}

func TestRandomScripts(t *testing.T) { // P24.1, P24.3, P24.4, held against the second telling
	met := map[string]int{}
	patterns := map[string]*regexp.Regexp{}
	for _, kind := range kinds {
		patterns[kind] = regexp.MustCompile(`(?m)^` + kind + `$`)
	}
	for seed := range int64(1500) {
		r := rand.New(rand.NewSource(seed))
		script := randomScript(r)
		x := tell(script)
		want := ""
		for _, one := range x.moments {
			want += one.text
		}
		if got := Run(script); got != want+x.end.text {
			t.Fatalf("seed %d: Run(%q) answered %q, wanted %q", seed, script, got, want+x.end.text)
		}
		x.holds(t, randomPieces(r, script))
		for kind, pattern := range patterns {
			met[kind] += len(pattern.FindAllString(want, -1))
		}
	}
	for kind := range patterns {
		if met[kind] < 30 {
			t.Errorf("%d answers of the kind %s", met[kind], kind)
		}
	}
}

// TestRandomScriptsAtTheLimit: behind so many remarks that the limit stands anywhere in the script.
func TestRandomScriptsAtTheLimit(t *testing.T) { // P24.2, P24.3, held against the second telling
	for seed := range int64(150) {
		r := rand.New(rand.NewSource(seed))
		script := randomScript(r)
		whole := limited(r.Intn(len(script)+2), script)
		tell(whole).holds(t, append([]string{whole[:250000]}, randomPieces(r, whole[250000:])...))
	}
}

// TestAllShortScripts: of few bytes that mean much, all texts of a length.
func TestAllShortScripts(t *testing.T) { // P24.1, P24.3
	parts := []string{"\n", "define", "end", " ", "#", "cache", "1", "x"}
	var scripts func(count int, begin string)
	scripts = func(count int, begin string) {
		x := tell(begin)
		x.holds(t, []string{begin})
		x.holds(t, bytesOf(begin))
		for _, part := range parts {
			if count > 0 {
				scripts(count-1, begin+part)
			}
		}
	}
	scripts(5, "")
}
