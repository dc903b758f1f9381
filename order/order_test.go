package order_test

import (
	"fmt"
	"math/rand"
	"reflect"
	"regexp"
	"slices"
	"strings"
	"testing"

	"ostiary/api"
	"ostiary/order"
)

// word is a word, or where none follows.
type word struct {
	text string
	ok   bool
}

// verb is a verb and the number of its arguments.
type verb struct {
	verb string
	args int
}

// counts are the verbs of the chapter's table, in increasing order.
var counts = []verb{
	{"count", 0}, {"grant", 3}, {"key-retire", 1}, {"key-rotate", 0}, {"policy", 1}, {"restore", 2}, {"revoke", 2},
	{"show-keys", 0}, {"show-policy", 0}, {"show-user", 2}, {"source-clear", 1}, {"sweep", 0}, {"tenant-add", 1}, {"tenant-drop", 1},
	{"ticket-revoke", 1}, {"ungrant", 3}, {"user-add", 5}, {"user-drop", 2}, {"user-pass", 5},
}

// latin returns a text with a code point for each byte, so that a regular expression can tell the bytes.
func latin(s string) string {
	out := make([]rune, len(s))
	for i := range len(s) {
		out[i] = rune(s[i])
	}
	return string(out)
}

// unlatin is the inverse.
func unlatin(s string) string {
	var out []byte
	for _, r := range s {
		out = append(out, byte(r))
	}
	return string(out)
}

var (
	bareForm   = regexp.MustCompile(`^[\x21\x23-\x5b\x5d-\x7e]+`)
	quotedForm = regexp.MustCompile(`^"((?:[\x20\x21\x23-\x5b\x5d-\x7e\x{80}-\x{ff}]|\\["\\n])*)"`)
	signForm   = regexp.MustCompile(`\\(.)`)
)

// slowWords reads a line by regular expressions.
func slowWords(line string) []word {
	rest, out := latin(line), []word(nil)
	for {
		var text string
		if m := quotedForm.FindStringSubmatch(rest); m != nil {
			rest = rest[len(m[0]):]
			text = signForm.ReplaceAllStringFunc(m[1], func(s string) string {
				return map[string]string{`\"`: `"`, `\\`: `\`, `\n`: "\n"}[s]
			})
		} else if m := bareForm.FindString(rest); m != "" {
			rest, text = rest[len(m):], m
		} else {
			return append(out, word{})
		}
		out = append(out, word{unlatin(text), true})
		if rest == "" {
			return out
		}
		if rest[0] != ' ' {
			return append(out, word{})
		}
		rest = rest[1:]
	}
}

// words collects what Words yields.
func words(line string) []word {
	var out []word
	for text, ok := range order.Words(line) {
		out = append(out, word{text, ok})
	}
	return out
}

// slowParse reads a line by slowWords and the table.
func slowParse(line string) (order.Command, api.Errno) {
	if len(line) > 4096 {
		return order.Command{}, api.ErrLong
	}
	l := slowWords(line)
	if !l[len(l)-1].ok {
		return order.Command{}, api.ErrForm
	}
	c := order.Command{Verb: l[0].text}
	for _, w := range l[1:] {
		c.Args = append(c.Args, w.text)
	}
	for _, v := range counts {
		if v.verb == c.Verb && v.args == len(c.Args) {
			return c, api.OK
		}
		if v.verb == c.Verb {
			return order.Command{}, api.ErrArg
		}
	}
	return order.Command{}, api.ErrNone
}

// slowText writes a command byte by byte, once its verb and arguments are right.
func slowText(c order.Command) (string, api.Errno) {
	line := c.Verb
	for _, arg := range c.Args {
		if bareForm.FindString(latin(arg)) == latin(arg) && arg != "" {
			line += " " + arg
			continue
		}
		line += ` "`
		for _, b := range []byte(arg) {
			switch {
			case b == '\n':
				line += `\n`
			case b < 0x20 || b == 0x7f:
				return "", api.ErrForm
			case b == '"' || b == '\\':
				line += `\` + string(b)
			default:
				line += string([]byte{b})
			}
		}
		line += `"`
	}
	if len(line) > 4096 {
		return "", api.ErrLong
	}
	return line, api.OK
}

// same reports whether two commands are equal; nil and no arguments are.
func same(a, b order.Command) bool {
	return a.Verb == b.Verb && slices.Equal(a.Args, b.Args)
}

// commandOf returns a command with that many arguments.
func commandOf(verb string, args int) order.Command {
	return order.Command{Verb: verb, Args: slices.Repeat([]string{"a"}, args)}
}

// texts calls yield with all texts of up to that many of the pieces.
func texts(pieces []string, most int, yield func(string)) {
	yield("")
	if most == 0 {
		return
	}
	for _, p := range pieces {
		texts(pieces, most-1, func(rest string) {
			if rest != "" || p != "" {
				yield(p + rest)
			}
		})
	}
}

func TestP24_1Words(t *testing.T) {
	no := word{}
	for line, want := range map[string][]word{
		"":                    {no},
		" ":                   {no},
		"a":                   {{"a", true}},
		"a b":                 {{"a", true}, {"b", true}},
		"a  b":                {{"a", true}, no},
		"a b ":                {{"a", true}, {"b", true}, no},
		" a":                  {no},
		`""`:                  {{"", true}},
		`"" ""`:               {{"", true}, {"", true}},
		`"a b" c`:             {{"a b", true}, {"c", true}},
		`"a`:                  {no},
		`"a"b`:                {{"a", true}, no},
		`"a""b"`:              {{"a", true}, no},
		`a"b"`:                {{"a", true}, no},
		`a\b`:                 {{"a", true}, no},
		`\n`:                  {no},
		`"`:                   {no},
		`"\"`:                 {no},
		`"\`:                  {no},
		`"\\"`:                {{`\`, true}},
		`"\"\\\n"`:            {{"\"\\\n", true}},
		`"\x"`:                {no},
		`"\N"`:                {no},
		"\"\n\"":              {no},
		"\"\x1f\"":            {no},
		"\"\x7f\"":            {no},
		"\"\x80\xff ü\"":      {{"\x80\xff ü", true}},
		"ü":                   {no},
		"a\n":                 {{"a", true}, no},
		"a\tb":                {{"a", true}, no},
		"!~#[]":               {{"!~#[]", true}},
		`x "y`:                {{"x", true}, no},
		"user-add t \"a\\\"b": {{"user-add", true}, {"t", true}, no},
	} {
		if got := words(line); !slices.Equal(got, want) {
			t.Errorf("%q: %v, not %v", line, got, want)
		}
	}
}

// Every byte in every place of a word.
func TestP24_1WordsBytes(t *testing.T) {
	for b := range 256 {
		one := string([]byte{byte(b)})
		for _, form := range []string{"%s", "a%s", "%sa", "a %s", "%s a", `"%s"`, `"a%s`, `"%sa"`, `"\%s"`, `"a" %s`, `"a"%s`, `%s"a"`, `a "%s" b`} {
			line := strings.Replace(form, "%s", one, 1)
			if got, want := words(line), slowWords(line); !slices.Equal(got, want) {
				t.Errorf("%q: %v, not %v", line, got, want)
			}
		}
	}
}

// All short lines of telling pieces.
func TestP24_1WordsShort(t *testing.T) {
	texts([]string{"a", "n", " ", `"`, `\`, "\n", "\x80", "\x7f"}, 6, func(line string) {
		if got, want := words(line), slowWords(line); !slices.Equal(got, want) {
			t.Fatalf("%q: %v, not %v", line, got, want)
		}
	})
}

// Each time from the beginning, and no further than the consumer goes.
func TestP24_1WordsStop(t *testing.T) {
	for _, line := range []string{`a "b c" d`, `a "b c" d `, `a "b`, `a"`, ""} {
		all := words(line)
		seq := order.Words(line)
		for most := 1; most <= len(all); most++ {
			var got []word
			for text, ok := range seq {
				got = append(got, word{text, ok})
				if len(got) == most {
					break
				}
			}
			if !slices.Equal(got, all[:most]) {
				t.Errorf("%q: %v, not %v", line, got, all[:most])
			}
		}
	}
}

func TestP24_1Parse(t *testing.T) {
	for line, want := range map[string]order.Command{
		"count":                           {Verb: "count"},
		`"count"`:                         {Verb: "count"},
		`user-add t ann "pencil" 0102 4`:  {Verb: "user-add", Args: []string{"t", "ann", "pencil", "0102", "4"}},
		`"revoke" "" "\n"`:                {Verb: "revoke", Args: []string{"", "\n"}},
		"policy \"deny * * * *\\nallow\"": {Verb: "policy", Args: []string{"deny * * * *\nallow"}},
		"grant \"\xff\" a\"b":             {},
		`grant "\\" "\"" ~`:               {Verb: "grant", Args: []string{`\`, `"`, "~"}},
	} {
		c, e := order.Parse(line)
		if !same(c, want) || (e == api.OK) != (want.Verb != "") {
			t.Errorf("%q: %q %d", line, c, e)
		}
	}
	// Whatever the number of arguments.
	for _, v := range counts {
		for n := range 8 {
			line := v.verb + strings.Repeat(" a", n)
			c, e := order.Parse(line)
			if n != v.args {
				if e != api.ErrArg || !same(c, order.Command{}) {
					t.Errorf("%q: %q %d", line, c, e)
				}
			} else if e != api.OK || !same(c, commandOf(v.verb, n)) {
				t.Errorf("%q: %q %d", line, c, e)
			}
		}
	}
}

func TestP24_1ParseErrors(t *testing.T) {
	long := strings.Repeat("x", 4096)
	for line, want := range map[string]api.Errno{
		"":                              api.ErrForm,
		" ":                             api.ErrForm,
		"count ":                        api.ErrForm,
		" count":                        api.ErrForm,
		"count\n":                       api.ErrForm,
		"count  a":                      api.ErrForm,
		"help  a":                       api.ErrForm,
		`policy "a`:                     api.ErrForm,
		`policy a b "`:                  api.ErrForm,
		"help":                          api.ErrNone,
		"Count":                         api.ErrNone,
		"counts":                        api.ErrNone,
		`""`:                            api.ErrNone,
		"user":                          api.ErrNone,
		"help a b c":                    api.ErrNone,
		"count a":                       api.ErrArg,
		"policy":                        api.ErrArg,
		"policy a b":                    api.ErrArg,
		"user-add t ann p 01":           api.ErrArg,
		"user-add t ann p 01 2 3":       api.ErrArg,
		long:                            api.ErrNone,
		long + "x":                      api.ErrLong,
		long + " ":                      api.ErrLong,
		strings.Repeat(" ", 4096):       api.ErrForm,
		strings.Repeat(" ", 4097):       api.ErrLong,
		"count" + long:                  api.ErrLong,
		"policy " + long[:4089]:         api.OK,
		"policy " + long[:4090]:         api.ErrLong,
		`policy "` + long[:4087] + `"`:  api.OK,
		`policy "` + long[:4088] + `"`:  api.ErrLong,
		`policy "` + long[:4088]:        api.ErrForm,
		"count " + long[:4090]:          api.ErrArg,
		"count " + long[:4089] + " ":    api.ErrForm,
		strings.Repeat("count ", 10000): api.ErrLong,
	} {
		c, e := order.Parse(line)
		if e != want || want != api.OK && !same(c, order.Command{}) {
			t.Errorf("%.80q (%d): %.80q %d, not %d", line, len(line), c, e, want)
		}
	}
}

func TestP24_1Text(t *testing.T) {
	for want, c := range map[string]order.Command{
		"count":                           {Verb: "count"},
		`user-add t ann pencil 0102 4`:    {Verb: "user-add", Args: []string{"t", "ann", "pencil", "0102", "4"}},
		`user-add t "a b" "x\"\\\ny" 1 4`: {Verb: "user-add", Args: []string{"t", "a b", "x\"\\\ny", "1", "4"}},
		`revoke "" " "`:                   {Verb: "revoke", Args: []string{"", " "}},
		"revoke \"\x80\" \"\xff\"":        {Verb: "revoke", Args: []string{"\x80", "\xff"}},
		"revoke ! ~":                      {Verb: "revoke", Args: []string{"!", "~"}},
		`policy "\n"`:                     {Verb: "policy", Args: []string{"\n"}},
		`policy \n`:                       {},
		`policy "\\n"`:                    {Verb: "policy", Args: []string{`\n`}},
		`policy "\"a\""`:                  {Verb: "policy", Args: []string{`"a"`}},
	} {
		if c.Verb == "" {
			continue
		}
		if got, e := c.Text(); e != api.OK || got != want {
			t.Errorf("%q: %q %d", want, got, e)
		}
		if back, e := order.Parse(want); e != api.OK || !same(back, c) {
			t.Errorf("%q: %q %d", want, back, e)
		}
	}
	for _, v := range counts {
		for n := range 8 {
			c := commandOf(v.verb, n)
			want, errno := v.verb+strings.Repeat(" a", n), api.OK
			if n != v.args {
				want, errno = "", api.ErrArg
			}
			if got, e := c.Text(); got != want || e != errno {
				t.Errorf("%q: %q %d", c, got, e)
			}
		}
	}
}

// Every byte alone, and beside others that are bare or not.
func TestP24_1TextBytes(t *testing.T) {
	for b := range 256 {
		one := string([]byte{byte(b)})
		for _, arg := range []string{one, "a" + one, one + "a", " " + one, one + " ", one + one, `"` + one} {
			for i := range 3 {
				c := commandOf("grant", 3)
				c.Args[i] = arg
				kept := slices.Clone(c.Args)
				want, errno := slowText(c)
				got, e := c.Text()
				if got != want || e != errno || !slices.Equal(c.Args, kept) {
					t.Errorf("%q: %q %d, not %q %d", c, got, e, want, errno)
				}
				if back, e := order.Parse(got); errno == api.OK && (e != api.OK || !same(back, c)) {
					t.Errorf("%q: back %q %d", got, back, e)
				}
			}
		}
	}
}

func TestP24_1TextErrors(t *testing.T) {
	long := strings.Repeat("x", 5000)
	for _, c := range []struct {
		command order.Command
		want    api.Errno
	}{
		{order.Command{}, api.ErrNone},
		{order.Command{Verb: "help"}, api.ErrNone},
		{order.Command{Verb: "count "}, api.ErrNone},
		{order.Command{Verb: "COUNT"}, api.ErrNone},
		{order.Command{Verb: "\x00", Args: []string{"\x00", long}}, api.ErrNone},
		{order.Command{Verb: long, Args: []string{long}}, api.ErrNone},
		{order.Command{Verb: "policy"}, api.ErrArg},
		{order.Command{Verb: "count", Args: []string{"\x00"}}, api.ErrArg},
		{order.Command{Verb: "policy", Args: []string{"\x00", long}}, api.ErrArg},
		{order.Command{Verb: "policy", Args: []string{"\x00"}}, api.ErrForm},
		{order.Command{Verb: "policy", Args: []string{"\t"}}, api.ErrForm},
		{order.Command{Verb: "policy", Args: []string{"\r\n"}}, api.ErrForm},
		{order.Command{Verb: "policy", Args: []string{"a\x7f"}}, api.ErrForm},
		{order.Command{Verb: "policy", Args: []string{long + "\x1f"}}, api.ErrForm},
		{order.Command{Verb: "revoke", Args: []string{long, "\x7f"}}, api.ErrForm},
		{order.Command{Verb: "policy", Args: []string{long}}, api.ErrLong},
		{order.Command{Verb: "policy", Args: []string{long[:4089]}}, api.OK},
		{order.Command{Verb: "policy", Args: []string{long[:4090]}}, api.ErrLong},
		{order.Command{Verb: "policy", Args: []string{long[:4086] + " "}}, api.OK},
		{order.Command{Verb: "policy", Args: []string{long[:4087] + " "}}, api.ErrLong},
		{order.Command{Verb: "policy", Args: []string{long[:4085] + "\n"}}, api.OK},
		{order.Command{Verb: "policy", Args: []string{long[:4086] + "\n"}}, api.ErrLong},
		{order.Command{Verb: "revoke", Args: []string{long[:4087], "a"}}, api.OK},
		{order.Command{Verb: "revoke", Args: []string{long[:4088], "a"}}, api.ErrLong},
	} {
		got, e := c.command.Text()
		if e != c.want || (got == "") != (e != api.OK) {
			t.Errorf("%.80q: %.80q %d, not %d", c.command, got, e, c.want)
		}
	}
}

// Random lines and commands: the readings agree, and each is the other's inverse.
func TestP24_1Random(t *testing.T) {
	r := rand.New(rand.NewSource(24))
	pieces := []string{"a", "t", " ", " ", `"`, `"`, `\`, `\n`, `\"`, "\n", "\x80", "ü", "\x7f", "-", "0", `"a b"`}
	some := func(most int) string {
		var out strings.Builder
		for range r.Intn(most) {
			out.WriteString(pieces[r.Intn(len(pieces))])
		}
		return out.String()
	}
	parsed := 0
	for range 100000 {
		v := counts[r.Intn(len(counts))]
		line := v.verb
		for range v.args + r.Intn(20)/19 {
			line += " " + []string{some(3), `"` + some(5) + `"`, "a"}[r.Intn(3)]
		}
		c, e := order.Parse(line)
		want, errno := slowParse(line)
		if e != errno || !same(c, want) {
			t.Fatalf("%q: %q %d, not %q %d", line, c, e, want, errno)
		}
		if e == api.OK {
			parsed++
			text, e := c.Text()
			if want, _ := slowText(c); e != api.OK || text != want {
				t.Fatalf("%q: %q %d, not %q", line, text, e, want)
			}
		}
		c = order.Command{Verb: v.verb}
		for range v.args {
			c.Args = append(c.Args, some(6))
		}
		text, e := c.Text()
		wanted, errno := slowText(c)
		if text != wanted || e != errno {
			t.Fatalf("%q: %q %d, not %q %d", c, text, e, wanted, errno)
		}
		if back, e := order.Parse(text); errno == api.OK && (e != api.OK || !same(back, c)) {
			t.Fatalf("%q: %q %d", text, back, e)
		}
	}
	if parsed < 1000 {
		t.Error("only", parsed, "lines were commands")
	}
}

func TestP24_2Verbs(t *testing.T) {
	seq := order.Verbs()
	for range 2 {
		i := 0
		for verb, args := range seq {
			if i >= len(counts) || counts[i].verb != verb || counts[i].args != args {
				t.Error(i, verb, args)
			}
			i++
		}
		if i != len(counts) {
			t.Error(i, "verbs")
		}
	}
	for most := 1; most <= len(counts); most++ {
		n := 0
		for range seq {
			n++
			if n == most {
				break
			}
		}
		if n != most {
			t.Error(n, most)
		}
	}
	if !slices.IsSortedFunc(counts, func(a, b verb) int { return strings.Compare(a.verb, b.verb) }) {
		t.Error("the table of this test is not sorted")
	}
}

// A nil *Hands comes before anything else.
func TestP24_2Nil(t *testing.T) {
	var h *order.Hands
	for _, line := range []string{"", "count", "help", "count a", `policy "`, strings.Repeat("x", 5000), "user-add t ann p zz 4"} {
		if reply, e := h.Do(line, 5); reply != "" || e != api.ErrNone {
			t.Errorf("%.80q: %q %d", line, reply, e)
		}
	}
	for _, c := range []order.Command{{}, {Verb: "count"}, {Verb: "count", Args: []string{"a"}}, commandOf("user-add", 5), commandOf("policy", 0)} {
		if reply, e := h.Run(c, 5); reply != "" || e != api.ErrNone {
			t.Errorf("%q: %q %d", c, reply, e)
		}
	}
}

// A field that is nil behaves as the nil object: the zero value of Hands has nothing at all.
func TestP24_2NilFields(t *testing.T) {
	for line, want := range map[string]string{
		"count":                      "0 0 0 0 0",
		"grant t ann dev":            "6",
		"key-retire 1":               "6",
		"key-retire 01":              "4",
		"key-rotate":                 "6",
		"restore t ann":              "6",
		"revoke t ann":               "6",
		"show-keys":                  "",
		"show-policy":                "",
		"show-user t ann":            "6",
		"source-clear s":             "6",
		`source-clear ""`:            "6",
		"sweep":                      "0 0 0",
		"tenant-add t":               "6",
		"tenant-drop t":              "6",
		"ticket-revoke 1":            "6",
		"ticket-revoke x":            "4",
		"ungrant t ann dev":          "6",
		"user-add t ann pencil 01 4": "6",
		"user-add T ann pencil 01 4": "6",
		"user-add t ann pencil 0 4":  "4",
		"user-drop t ann":            "6",
		"user-pass t ann p 01 4":     "6",
		"user-pass t ann p 01 -4":    "4",
		"policy x":                   "4",
		"help":                       "6",
		"count a":                    "1",
		"":                           "4",
	} {
		h := &order.Hands{}
		reply, e := h.Do(line, 5)
		if e != api.OK && reply == "" {
			reply = fmt.Sprint(int(e))
		}
		if reply != want {
			t.Errorf("%q: %q, not %q", line, reply, want)
		}
		if !reflect.DeepEqual(*h, order.Hands{}) {
			t.Errorf("%q has made something", line)
		}
	}
	h := &order.Hands{}
	if reply, e := h.Do(`policy "allow dev t * 80"`, 5); reply != "ok" || e != api.OK || h.Policy.Text() != "allow dev t * 80\n" {
		t.Error(reply, e, h.Policy.Text())
	}
	if reply, e := h.Do("show-policy", 5); reply != "allow dev t * 80\n" || e != api.OK {
		t.Error(reply, e)
	}
}
