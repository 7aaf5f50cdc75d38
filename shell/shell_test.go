package shell_test

import (
	"math/rand"
	"strconv"
	"strings"
	"testing"

	"countinghouse/api"
	"countinghouse/foata"
	"countinghouse/frame"
	"countinghouse/shell"
)

func gives(t *testing.T, text, want string) {
	t.Helper()
	if got := shell.Run(text); got != want {
		t.Errorf("%q\n got %q\nwant %q", text, got, want)
	}
}

// last checks the last line of the output.
func last(t *testing.T, text, want string) {
	t.Helper()
	got := shell.Run(text)
	l := strings.Split(got, "\n")
	if len(l) < 2 || l[len(l)-1] != "" || l[len(l)-2] != want {
		t.Errorf("%q\n got %q\nwant %q", text, got, want)
	}
}

func TestExampleP20_1(t *testing.T) {
	last(t, "town 3\ndo 0 1.1 open a 5\ncalm 99\naccts 2\n", "a:0:0")
}

func TestFirstLineP20_1(t *testing.T) {
	for text, want := range map[string]string{
		"":                                   "",
		"\n\n  \n":                           "",
		"   ":                                "",
		"town 3":                             "",
		"town 5\n":                           "",
		"\n  \n  town   7  \n":               "",
		"town 3\nbag":                        "0\n",
		"town 3\n\nbag\n  \nbag  ":           "0\n0\n",
		"town 4\nbag\n":                      "error 12\n",
		"town 0":                             "error 12\n",
		"town 1":                             "error 12\n",
		"town 999999":                        "error 12\n",
		"town 03":                            "error 12\n",
		"town +3":                            "error 12\n",
		"town -3":                            "error 12\n",
		"town":                               "error 12\n",
		"town 3 3":                           "error 12\n",
		"town x":                             "error 12\n",
		"Town 3":                             "error 12\n",
		"town\t3":                            "error 12\n",
		"bag":                                "error 12\n",
		"bag\ntown 3\nbag":                   "error 12\n",
		"town 3\r\nbag":                      "error 12\n",
		"town 3\ntown 3\nbag":                "error 12\n0\n",
		"town 3\x00":                         "error 12\n",
		"town 3\nbag\x00":                    "error 12\n",
		"town 3\n\xff\xfe":                   "error 12\n",
		"town 3\n\u00a0bag":                  "error 12\n",
		"town 3\nbag\u2003":                  "error 12\n",
		"town 3\n" + strings.Repeat("a", 99): "error 12\n",
	} {
		gives(t, text, want)
	}
}

func TestTooLongP20_1(t *testing.T) {
	head := "town 3\nbag\n"
	gives(t, head+strings.Repeat(" ", 20000-len(head)), "0\n")
	gives(t, head+strings.Repeat(" ", 20001-len(head)), "error 13\n")
	gives(t, strings.Repeat("x", 20001), "error 13\n")
	gives(t, strings.Repeat("x", 20000), "error 12\n")
	gives(t, head+strings.Repeat("\n", 198), "0\n")
	gives(t, head+strings.Repeat("\n", 199), "error 13\n")
	gives(t, strings.Repeat("\n", 200), "")
	gives(t, strings.Repeat("\n", 201), "error 13\n")
}

func TestLinesThatAreWrongP20_1(t *testing.T) {
	for _, line := range []string{
		"do", "do 0", "do 0 1.1", "do 0 1.1 open", "do 0 1.1 open a", "do 0 1.1 open a 5 5", "do 0 1.1 Open a 5", "do x 1.1 open a 5",
		"do 0 1 open a 5", "do 0 1.1.1 open a 5", "do 0 .1 open a 5", "do 0 1. open a 5", "do 0 01.1 open a 5", "do 0 1.01 open a 5", "do 0 -1.1 see a",
		"do 0 1.1 open a +5", "do 0 1.1 open a 05", "do 0 1.1 open a 5.0", "do 0 1.1 open a -0", "do 0 1.1 open a 9223372036854775808", "do 0 1.1 open a -9223372036854775809",
		"do 0 1.1 post", "do 0 1.1 post x", "do 0 1.1 post -1", "do 0 1.1 post 1 a", "do 0 1.1 post 1 a 5 b", "do 0 1.1 post 1 a b", "do 0 1.1 post 1234567",
		"do 0 1.1 hold a", "do 0 1.1 hold a x", "do 0 1.1 hold a 5 5", "do 0 1.1 capture a b 5 1", "do 0 1.1 capture a b 5 1 2 3", "do 0 1.1 capture a b 5 -1 2", "do 0 1.1 capture a b x 1 2",
		"do 0 1.1 release a", "do 0 1.1 release a x", "do 0 1.1 release a 1 1", "do 0 1.1 close", "do 0 1.1 close a", "do 0 1.1 close 1 1", "do 0 1.1 see", "do 0 1.1 see a b",
		"do 0 1.1 ask a", "do 0 1.1 town 3", "do 0 1.1234567 see a", "do 1000000 1.1 see a",
		"bring", "bring x", "bring 0 0", "bring -1", "bring 00", "bring 1234567", "lose", "lose 0 0", "double", "double a", "tick", "tick 0 0", "crash", "crash 0 1", "crash 0.0",
		"round 0", "round 1", "up", "up 0", "up 0 0 0", "up 0 x", "calm", "calm x", "calm 5 5", "calm 1000000", "list", "list 0 0", "list x", "accts", "accts 0 0", "told 0", "told x",
		"sum", "sum 0 0", "bag 0", "see a", "open a 5", "Bag", "bags", "0", ".", "\tbag",
	} {
		gives(t, "town 3\n"+line+"\nbag\nbring 0\n", "error 12\n0\nerror 6\n")
	}
}

func TestStepsP20_1(t *testing.T) {
	gives(t, `town 3
do 0 1.1 open a 5
bag
double 0
bag
lose 0
bring 0
bring 0
bag
bring 1
bag
tick 0
tick 1
round
bag
crash 2
crash 2
tick 2
do 2 1.2 see a
up 2 7
up 2 0
calm 50
bag
`, "ok\n2\nok\n3\nok\nok\nok\n2\nok\n1\nok\nok\nok\n"+bagAfterRound(t)+"\nok\nerror 14\nerror 14\nerror 14\nok\nerror 7\n"+calmAfterUp(t)+"\n0\n")
}

// The numbers of messages follow from layer 18, and are not the shell's.
func bagAfterRound(t *testing.T) string {
	t.Helper()
	l := strings.Split(shell.Run("town 3\ndo 0 1.1 open a 5\ndouble 0\nlose 0\nbring 0\nbring 0\nbring 1\ntick 0\ntick 1\nround\nbag"), "\n")
	return l[len(l)-2]
}

func calmAfterUp(t *testing.T) string {
	t.Helper()
	l := strings.Split(shell.Run("town 3\ndo 0 1.1 open a 5\ndouble 0\nlose 0\nbring 0\nbring 0\nbring 1\ntick 0\ntick 1\nround\ncrash 2\nup 2 7\ncalm 50"), "\n")
	if n, err := strconv.Atoi(l[len(l)-2]); err != nil || n < 1 || n > 20 {
		t.Error(l)
	}
	return l[len(l)-2]
}

func TestErrorsOfStepsP20_1(t *testing.T) {
	for line, want := range map[string]string{
		"bring 5":                 "error 6",
		"lose 999999":             "error 6",
		"double 5":                "error 6",
		"tick 3":                  "error 1",
		"crash 9":                 "error 1",
		"up 3 0":                  "error 1",
		"up 0 0":                  "error 7",
		"do 3 1.1 see a":          "error 1",
		"do 0 1.0 see a":          "error 1",
		"do 0 10.1 see a":         "error 1",
		"do 0 1.1000 see a":       "error 1",
		"do 0 1.1 see A":          "error 1",
		"do 0 1.1 open a -1":      "error 1",
		"do 0 1.1 post 1":         "error 1",
		"do 0 1.1 post 1 a 5":     "error 1",
		"do 0 1.1 hold a 0":       "error 1",
		"do 0 1.1 hold a -5":      "error 1",
		"do 0 1.1 close 0":        "error 1",
		"do 0 1.1 close 1001":     "error 1",
		"do 0 1.1 release a 0":    "error 1",
		"list 3":                  "error 14",
		"accts 3":                 "error 14",
		"sum 999999":              "error 14",
		"calm 0":                  "0",
		"told":                    "",
		"list 0":                  "",
		"accts 2":                 "",
		"  bag  ":                 "0",
		"do 0 1.1 open a 0":       "ok",
		"do 0 9.999 see zzzzzzzz": "ok",
		"do  0   1.1  close  9":   "ok",
		"do 0 1.1 post 1 a -9223372036854775808 b 9223372036854775807": "ok",
		"do 0 1.1 capture a b 5 9999 1000":                             "ok",
		"do 0 1.1 release a 1":                                         "ok",
		"do 0 1.1 hold a 9223372036854775807":                          "ok",
	} {
		gives(t, "town 3\n"+line, want+"\n")
	}
	for _, line := range []string{"list 1", "accts 1", "sum 1", "tick 1", "crash 1", "do 1 1.1 see a"} {
		gives(t, "town 3\ncrash 1\n"+line, "ok\nerror 14\n")
	}
}

const story = `town 3
do 0 1.1 open a 5
calm 99
do 1 1.2 open bank 1000
calm 99
do 2 2.1 post 3 bank -100 a 60 a -20 bank 60
do 2 2.1 post 3 bank -100 a 100
calm 99
do 0 1.3 hold a 30
calm 99
do 1 1.4 capture a bank 12 1003 3
calm 99
do 1 1.5 hold a 7
calm 99
do 1 1.6 release a 9
calm 99
do 0 1.7 close 3
calm 99
do 2 1.8 see a
do 2 1.9 post 3 bank -100 a 100
calm 99
`

func TestStoryP20_1(t *testing.T) {
	for _, k := range []string{"0", "1", "2"} {
		last(t, story+"accts "+k, "a:88:7 bank:-88:0")
		last(t, story+"list "+k, "1.1 1.2 2.1 1.3 1.4 1.5 1.6 1.7 1.8 1.9")
	}
	last(t, story+"told", "0:1.1:0:0:0:0 1:1.2:0:0:0:0 2:2.1:0:0:0:0 0:1.3:0:100:30:1003 1:1.4:0:88:0:0 1:1.5:0:88:7:1005 1:1.6:6:0:0:0 0:1.7:0:0:0:3 2:1.8:0:88:7:0 2:1.9:10:0:0:0")
	l := strings.Split(shell.Run(story), "\n")
	for i, line := range l[:len(l)-1] {
		if line == "error 1" != (i == 4) {
			t.Error(i, line)
		}
	}
}

func TestSumP20_1(t *testing.T) {
	o := api.Order{Id: api.Id{Client: 4, Seq: 7}, Kind: api.Open, Acct: "a", Sum: 5}
	p := api.Order{Id: api.Id{Client: 4, Seq: 8}, Kind: api.Capture, Acct: "a", Peer: "b", Sum: 3, Hold: 17, Period: 29}
	b, e := foata.Export([]api.Order{o, p})
	if e != api.OK {
		t.Fatal(e)
	}
	last(t, "town 3\ndo 0 4.7 open a 5\ncalm 50\ndo 0 4.8 capture a b 3 17 29\ncalm 50\nsum 1", strconv.FormatUint(uint64(frame.Sum(b)), 10))
	last(t, "town 3\nsum 1", strconv.FormatUint(uint64(frame.Sum([]byte{0})), 10))
}

func TestEveryOrderIsReadP20_1(t *testing.T) {
	for text, o := range map[string]api.Order{
		"open ab 12":                {Kind: api.Open, Acct: "ab", Sum: 12},
		"post 7 a -5 bc 6 d 1":      {Kind: api.Post, Period: 7, Legs: []api.Leg{{Acct: "a", Sum: -5}, {Acct: "bc", Sum: 6}, {Acct: "d", Sum: 1}}},
		"hold ab 12":                {Kind: api.Hold, Acct: "ab", Sum: 12},
		"capture ab cd 12 3456 789": {Kind: api.Capture, Acct: "ab", Peer: "cd", Sum: 12, Hold: 3456, Period: 789},
		"release ab 3456":           {Kind: api.Release, Acct: "ab", Hold: 3456},
		"close 789":                 {Kind: api.Close, Period: 789},
		"see ab":                    {Kind: api.Ask, Acct: "ab"},
	} {
		o.Id = api.Id{Client: 8, Seq: 123}
		b, e := foata.Export([]api.Order{o})
		if e != api.OK {
			t.Fatal(text, e)
		}
		last(t, "town 5\ndo 3 8.123 "+text+"\ncalm 50\nsum 0", strconv.FormatUint(uint64(frame.Sum(b)), 10))
	}
}

// What follows a line does not change the output up to that line.
func TestPrefixP20_2(t *testing.T) {
	lines := strings.SplitAfter(story+"accts 1\nlist 2\ntold\nwrong\nsum 0\ncrash 0\nsum 0\nup 0 9\nround\nbag\n", "\n")
	whole := shell.Run(strings.Join(lines, ""))
	for k := range lines {
		part := shell.Run(strings.Join(lines[:k], ""))
		if !strings.HasPrefix(whole, part) || strings.Count(part, "\n") != max(0, k-1) {
			t.Error(k, part)
		}
	}
}

// Run terminates for every text, and its output has a line for every line with words but the first.
func TestAnyTextP20_1(t *testing.T) {
	r := rand.New(rand.NewSource(20))
	words := strings.Fields("do bring lose double tick crash round up calm list accts told sum bag town 0 1 2 3 9 -1 1.1 1.2 2.1 a b open post hold capture release close see 5 \xff")
	starts := strings.Fields("do|0|1.1|open|a|5 do|1|1.2|see|a do|2|2.1|post|1|a|-1|b|1 bring|0 bring|1 lose|0 tick|0 tick|1 crash|1 up|1|3 round calm|3 list|0 told accts|1 sum|2 bag")
	for range 400 {
		text := "town 3\n"
		count := r.Intn(20)
		for range count {
			if r.Intn(3) > 0 {
				text += strings.ReplaceAll(starts[r.Intn(len(starts))], "|", " ") + "\n"
				continue
			}
			for range 1 + r.Intn(6) {
				text += words[r.Intn(len(words))] + " "
			}
			text += "\n"
		}
		if got := shell.Run(text); strings.Count(got, "\n") != count || got != shell.Run(text) {
			t.Fatalf("%q: %q", text, got)
		}
	}
}
