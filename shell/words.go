package shell

import (
	"strconv"
	"strings"

	"countinghouse/api"
	"countinghouse/coins"
)

// blank is what a word of an order fills.
type blank struct {
	fill func(o *api.Order, word string)
}

// form is the words of an order behind its keyword.
type form struct {
	kind   int
	blanks []blank
	// rest is given the words that follow the blanks.
	rest func(o *api.Order, words []string)
}

func forms() map[string]form {
	acct := blank{func(o *api.Order, word string) { o.Acct = word }}
	peer := blank{func(o *api.Order, word string) { o.Peer = word }}
	sum := blank{func(o *api.Order, word string) { o.Sum = readSum(word) }}
	hold := blank{func(o *api.Order, word string) { o.Hold = number(word) }}
	period := blank{func(o *api.Order, word string) { o.Period = number(word) }}
	return map[string]form{
		"open":    {api.Open, []blank{acct, sum}, noMore},
		"post":    {api.Post, []blank{period}, legs},
		"hold":    {api.Hold, []blank{acct, sum}, noMore},
		"capture": {api.Capture, []blank{acct, peer, sum, hold, period}, noMore},
		"release": {api.Release, []blank{acct, hold}, noMore},
		"close":   {api.Close, []blank{period}, noMore},
		"see":     {api.Ask, []blank{acct}, noMore},
	}
}

// readOrder returns the order that the words are.
func readOrder(words []string) api.Order {
	require(len(words) >= 2)
	f, known := forms()[words[1]]
	require(known)
	o := api.Order{Id: readId(words[0]), Kind: f.kind}
	words = words[2:]
	require(len(words) >= len(f.blanks))
	for k, b := range f.blanks {
		b.fill(&o, words[k])
	}
	f.rest(&o, words[len(f.blanks):])
	return o
}

func noMore(_ *api.Order, words []string) { require(len(words) == 0) }

func legs(o *api.Order, words []string) {
	require(len(words)%2 == 0)
	for k := 0; k < len(words); k += 2 {
		o.Legs = append(o.Legs, api.Leg{Acct: words[k], Sum: readSum(words[k+1])})
	}
}

func readId(word string) api.Id {
	client, seq, ok := strings.Cut(word, ".")
	require(ok)
	return api.Id{Client: number(client), Seq: number(seq)}
}

func readSum(word string) int64 {
	n, e := coins.Read(word, 0)
	require(e == api.OK)
	return n
}

// numbers returns the numbers that the words are, of which there must be this many.
func numbers(words []string, count int) []int {
	require(len(words) == count)
	var l []int
	for _, word := range words {
		l = append(l, number(word))
	}
	return l
}

func number(word string) int {
	n, ok := readNumber(word)
	require(ok)
	return n
}

func readNumber(word string) (int, bool) {
	n, err := strconv.Atoi(word)
	// A sign and leading zeros are no part of a number.
	return n, err == nil && len(word) <= mostDigits && strconv.Itoa(n) == word && n >= 0
}
