package driver

import (
	"fmt"
	"strings"
	"testing"

	"arbiter/api"
)

// upTo makes a line longer, up to so many bytes.
func upTo(size int, line, filler string) string {
	return line + strings.Repeat(filler, size)[:size-len(line)]
}

func TestEmptyLinesAndRemarks(t *testing.T) { // P24.1
	for _, line := range []string{"", "#", "##", "# x", "#x y  z ", "#define", "# define", "#cache 2", "#run A.f()V fuel 5", "#chain Object", "#end", "#\r", "#\x00\xff"} {
		says(t, line+"\n")
		says(t, line)
		says(t, strings.Repeat(line+"\n", 3)+"chain Object\n"+line, "Object")
	}
	// Neither of them is what has something ahead of it.
	each(t, "", nil, map[string]string{" ": "error 4", " #": "error 4", " # x": "error 4", "\t": "error 8", "\r": "error 8", "\x00": "error 8", "x#": "error 8", "\xff": "error 8", "\v": "error 8", "\u00a0": "error 8", "\u2028": "error 8", "//": "error 8", ";": "error 8"})
}

func TestLinesOfMaxLineBytes(t *testing.T) { // P24.1
	long := strings.Repeat("[", 255) + "I"
	args := func(size int) string {
		fuel := " fuel 5"
		return upTo(size-len(fuel), "run A.f()V"+strings.Repeat(" 1", size%2), " 10") + fuel
	}
	// By what each line answers, if it has MaxLine bytes.
	for line, want := range map[string]string{
		upTo(2000, "x", "x"):                             "error 8",
		upTo(2000, "chain O", "o"):                       "error 4",
		upTo(2000, "chain Object", " "):                  "error 4",
		upTo(2000, " ", " "):                             "error 4",
		upTo(2000, "below "+long+" I", " I"):             "error 2",
		upTo(2000, "define ", "x"):                       "error 4",
		upTo(2000, "define ", " "):                       "error 4",
		upTo(2000, "cache 1", "1"):                       "error 4",
		upTo(2000, "cache 2 ", "3 "):                     "error 4",
		upTo(2000, "run ", "x"):                          "error 4",
		upTo(2000, "run A.f()V fuel 1", "0"):             "error 4",
		upTo(2000, "run A.f(", "I")[:1991] + ")V fuel 5": "error 4",
		args(2000):                 "error 2",
		upTo(2000, "end ", "x"):    "error 8",
		upTo(2000, "é", "é"):       "error 8",
		upTo(2000, "\xff", "\xff"): "error 8",
		upTo(2000, "\x00", "\x00"): "error 8",
	} {
		if len(line) != api.MaxLine {
			t.Fatalf("%d bytes: %s", len(line), show(line))
		}
		says(t, line+"\n", want)
		says(t, line, want)
	}
	// With a byte more, and with many more, each is too long, whatever it is besides.
	for _, begin := range []string{"x", "chain Object", " ", "below I I", "define", "define ", "definex", "cache 2", "cache", "cache 1", "run", "run A.f()V fuel 5", "run A.f()V", "end", "é", "\xff", "\x00", "\r", " #"} {
		for _, filler := range []string{"x", " ", "0", " 1"} {
			for _, size := range []int{2001, 2002, 2100, 5000} {
				says(t, upTo(size, begin, filler)+"\nbelow I I\n", "error 5", "yes")
			}
			says(t, upTo(2001, begin, filler), "error 5")
		}
	}
	// They are bytes that are counted, not letters.
	says(t, strings.Repeat("é", 1001)+"\n"+strings.Repeat("é", 1000)+"\n", "error 5", "error 8")
	for _, begin := range []string{"define ", "cache ", "run ", "run A.f()V fuel "} {
		says(t, begin+strings.Repeat("é", 990)+"\n"+begin+strings.Repeat("é", 1000)+"\n", "error 4", "error 5")
	}
	// The byte 10 is no part of the line.
	says(t, upTo(2000, "x", "x")+"\n"+upTo(2000, "x", "x")+"\n", "error 8", "error 8")
	if got := Run(args(2001)); got != "error 5\n" {
		t.Errorf("%d bytes: %q", len(args(2001)), got)
	}
}

// TestLongRemarks: the chapter names what begins with # ahead of what is too long.
func TestLongRemarks(t *testing.T) { // P24.1, R2
	for _, begin := range []string{"#", "# ", "#define", "#chain Object", "##", "#\x00"} {
		for _, size := range []int{1999, 2000, 2001, 2002, 9999, 70000} {
			says(t, upTo(size, begin, "x #\r")+"\nbelow I I\n", "yes")
			says(t, upTo(size, begin, " "))
		}
	}
}

// TestFirstWord: a word that only begins like a command, or is written otherwise, is none.
func TestFirstWord(t *testing.T) { // P24.1
	table := map[string]string{}
	for _, word := range []string{"define", "cache", "run"} {
		for _, other := range []string{word + "d", word + "s", word + "1", word + ".", word + "\t", word + "\r", word + "\x00", word + "\u00a0", strings.ToUpper(word), strings.ToUpper(word[:1]) + word[1:], word[:len(word)-1], "x" + word, "\t" + word, "\ufeff" + word, word + word, word + "#", "(" + word + ")", word + "=2"} {
			table[other] = "error 8"
			table[other+" 2"] = "error 8"
			table[other+" A.f()V fuel 5"] = "error 8"
		}
		table[" "+word] = "error 4"
		table["  "+word+" 2"] = "error 4"
		table[word+" "] = "error 4"
		table[word+"  2"] = "error 4"
		table[word+" x"] = "error 4"
		table[word+"\t2"] = "error 8"
	}
	table["cache2"], table["runA.f()V fuel 5"], table["end"], table["fuel"], table["fuel 5"], table["class A"] = "error 8", "error 8", "error 8", "error 8", "error 8", "error 8"
	table["end "] = "error 4"
	each(t, "", nil, table)
}

// townScript are classes with methods of many kinds, of which some override, hide or meet others; each arrives.
func townScript() (script string, answers []string) {
	one := func(head string, n int) string { return method(head, fmt.Sprintf("iconst %d, ireturn", n)) }
	all := []string{
		iface("I", method("a ()I public abstract", ""), one("d ()I public", 1), one("s ()I public static", 2)),
		iface("J", one("d ()I public", 3)),
		class("A", "Object", one("m ()I public", 4), one("p ()I private", 5), one("s ()I public static", 6)),
		of(class("B", "A", one("m ()I public", 7), one("a ()I public", 8)), "I"),
		of(class("C", "B"), "J"),
		class("p/X", "Object", one("m ()I", 9)),
		class("q/Y", "p/X", one("m ()I public", 10)),
	}
	for at := range all {
		answers = append(answers, fmt.Sprint("defined ", 3+at))
	}
	return strings.Join(all, ""), answers
}

func TestQuestions(t *testing.T) { // P24.1: of all commands, and their errors
	town, answers := townScript()
	each(t, town, answers, map[string]string{
		"select virtual A.m()I B from Object":    "B.m()I",
		"select interface I:a()I C from Object":  "B.a()I",
		"select special A.p()I A from A":         "A.p()I",
		"select virtual A.p()I A from Object":    "error 22",
		"select interface I:d()I C from Object":  "error 23",
		"select virtual A.m()I [I from Object":   "error 23",
		"select virtual A.m()I No from Object":   "error 20",
		"select static A.s()I A from Object":     "error 4",
		"select virtual A.m()I B from No":        "error 20",
		"select virtual A.m()I B of Object":      "error 4",
		"select virtual A.m()I B from":           "error 2",
		"select virtual A.m B from Object":       "error 4",
		"static A.s()I from Object":              "A.s()I",
		"static I:s()I from Object":              "I:s()I",
		"static A.m()I from Object":              "error 23",
		"static A.s()I from 1":                   "error 4",
		"resolve C.m()I from Object":             "B.m()I",
		"resolve q/Y.m()I from Object":           "q/Y.m()I",
		"resolve p/X.m()I from Object":           "error 22",
		"resolve No.m()I from Object":            "error 20",
		"resolve A.none()I from Object":          "error 21",
		"resolve A.m()I from Object from Object": "error 2",
		"below LC; LI;":                          "yes",
		"below LA; LI;":                          "no",
		"below LNo; LI;":                         "error 20",
		"below A LI;":                            "error 4",
		"below LA;":                              "error 2",
		"overrides B.m()I A.m()I":                "yes",
		"overrides q/Y.m()I p/X.m()I":            "no",
		"overrides C.m()I A.m()I":                "error 21",
		"overrides No.m()I A.m()I":               "error 20",
		"overrides A:m()I A.m()I":                "error 23",
		"overrides A.m A.m()I":                   "error 4",
		"vtable B":                               "0 Object.id()I Object.id()I, 1 Object.kin()LObject; Object.kin()LObject;, 2 A.m()I B.m()I, 3 B.a()I B.a()I",
		"vtable I":                               "error 23",
		"vtable q/Y":                             "0 Object.id()I Object.id()I, 1 Object.kin()LObject; Object.kin()LObject;, 2 p/X.m()I p/X.m()I, 3 q/Y.m()I q/Y.m()I",
		"itable C":                               "Object.id()I Object.id()I Object.id()I, I:a()I B.a()I B.a()I, I:d()I error 23 error 23, J:d()I error 23 error 23",
		"itable J":                               "error 23",
		"display C":                              "primary Object A B C, deep, secondary I J",
		"display No":                             "error 20",
		"chain C":                                "C, B, A, Object",
		"chain":                                  "error 2",
		"chain C C":                              "error 2",
		"chain  C":                               "error 4",
		"chain C ":                               "error 4",
		"chain [I":                               "error 4",
		"closure C":                              "I, J",
		"closure Object":                         "",
		"closure A":                              "",
		"methods I":                              "I:a()I, I:d()I, I:s()I",
		"methods C":                              "",
		"methods Cloneable":                      "",
		"methods Object":                         "Object.<init>()V, Object.id()I, Object.kin()LObject;",
		"chains Object":                          "error 8",
		"Chain Object":                           "error 8",
		"defines A":                              "error 8",
	})
}
