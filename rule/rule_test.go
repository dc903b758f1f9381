package rule_test

import (
	"fmt"
	"math"
	"math/rand"
	"regexp"
	"slices"
	"strconv"
	"strings"
	"testing"
	"time"

	"ostiary/api"
	"ostiary/rule"
)

const maxPort = 65535

// with makes a rule that allows.
func with(role, tenant, host string, from, to int) rule.Rule {
	return rule.Rule{Allow: true, Role: role, Tenant: tenant, Host: host, From: from, To: to}
}

// denying makes a rule that denies.
func denying(role, tenant, host string, from, to int) rule.Rule {
	return rule.Rule{Role: role, Tenant: tenant, Host: host, From: from, To: to}
}

// parsed returns the policy of a text that has one.
func parsed(t *testing.T, text string) *rule.Policy {
	t.Helper()
	p, n, e := rule.Parse(text)
	if p == nil || n != 0 || e != api.OK {
		t.Fatalf("%q: line %d, %d", text, n, e)
	}
	return p
}

// made returns the policy with rules that are valid.
func made(t *testing.T, rules ...rule.Rule) *rule.Policy {
	t.Helper()
	p, e := rule.New(rules...)
	if p == nil || e != api.OK {
		t.Fatal(rules, e)
	}
	return p
}

// content returns the rules of a policy, whose indices it checks.
func content(t *testing.T, p *rule.Policy) []rule.Rule {
	t.Helper()
	var out []rule.Rule
	for i, r := range p.Rules() {
		if i != len(out) {
			t.Fatalf("index %d, not %d", i, len(out))
		}
		out = append(out, r)
	}
	if p.Len() != len(out) {
		t.Fatalf("%d rules, not %d", p.Len(), len(out))
	}
	return out
}

// expect checks the rules of a policy.
func expect(t *testing.T, p *rule.Policy, want ...rule.Rule) {
	t.Helper()
	if got := content(t, p); !slices.Equal(got, want) {
		t.Fatalf("%v, not %v", got, want)
	}
}

// refused checks that a text has no policy.
func refused(t *testing.T, text string, line int, want api.Errno) {
	t.Helper()
	if p, n, e := rule.Parse(text); p != nil || n != line || e != want {
		t.Errorf("%.300q: line %d, %d, not line %d, %d", text, n, e, line, want)
	}
}

// A line, the line that is written, and its rule.
var goodLines = []struct {
	line, written string
	rule          rule.Rule
}{
	{"allow dev t web 80", "", with("dev", "t", "web", 80, 80)},
	{"deny dev t web 80", "", denying("dev", "t", "web", 80, 80)},
	{"deny * t db*.x 5432", "", denying("*", "t", "db*.x", 5432, 5432)},
	{"allow dev * * 1-9999", "", with("dev", "*", "*", 1, 9999)},
	{"allow * * * *", "", with("*", "*", "*", 1, maxPort)},
	{"allow * * * 1-65535", "allow * * * *", with("*", "*", "*", 1, maxPort)},
	{"allow a b c 7-7", "allow a b c 7", with("a", "b", "c", 7, 7)},
	{"allow a b c 1-1", "allow a b c 1", with("a", "b", "c", 1, 1)},
	{"allow a b c 65535-65535", "allow a b c 65535", with("a", "b", "c", maxPort, maxPort)},
	{"allow a b c 1", "", with("a", "b", "c", 1, 1)},
	{"allow a b c 65535", "", with("a", "b", "c", maxPort, maxPort)},
	{"allow a b c 1-2", "", with("a", "b", "c", 1, 2)},
	{"allow a b c 1-65534", "", with("a", "b", "c", 1, maxPort-1)},
	{"allow a b c 2-65535", "", with("a", "b", "c", 2, maxPort)},
	{"allow a b c 9-10", "", with("a", "b", "c", 9, 10)},
	{"allow a b c 79-80", "", with("a", "b", "c", 79, 80)},
	{"deny - _ - 10-100", "", denying("-", "_", "-", 10, 100)},
	{"allow az09-_ zyx_-9 az09.-_*** 5", "", with("az09-_", "zyx_-9", "az09.-_***", 5, 5)},
	{"allow allow deny .. 5", "", with("allow", "deny", "..", 5, 5)},
	{"allow " + strings.Repeat("r", 32) + " " + strings.Repeat("t", 32) + " " + strings.Repeat("h", 32) + " 10000-20000", "", with(strings.Repeat("r", 32), strings.Repeat("t", 32), strings.Repeat("h", 32), 10000, 20000)},
	{"allow r t " + strings.Repeat("*", 32) + " *", "", with("r", "t", strings.Repeat("*", 32), 1, maxPort)},
}

// Lines that are neither rules nor skipped.
var badLines = []string{
	" ", "x", "\r", "\t", "\x00", " #", " # comment", "allow", "allow ", "deny", "allow dev", "allow dev t", "allow dev t web", "allow dev t web ", "allow dev t 80", "allow dev t web 80 ", " allow dev t web 80", "allow dev t web 80 80",
	"allow  dev t web 80", "allow dev  t web 80", "allow dev t  web 80", "allow dev t web  80", "allow\tdev t web 80", "allow dev t web\t80", "allow dev t web 80\r", "allow dev t web 80 # comment", "allow dev t web 80#", "allow,dev,t,web,80",
	"permit dev t web 80", "Allow dev t web 80", "ALLOW dev t web 80", "Deny dev t web 80", "allowed dev t web 80", "allo dev t web 80", " dev t web 80", "* dev t web 80", "denyallow dev t web 80",
	"allow  t web 80", "allow Dev t web 80", "allow d.v t web 80", "allow ** t web 80", "allow d* t web 80", "allow dév t web 80", "allow " + strings.Repeat("r", 33) + " t web 80", "allow d\xff t web 80", "allow d\xc2\xadv t web 80",
	"allow dev  web 80", "allow dev T web 80", "allow dev t. web 80", "allow dev ** web 80", "allow dev t* web 80", "allow dev é web 80", "allow dev " + strings.Repeat("t", 33) + " web 80",
	"allow dev t  80", "allow dev t Web 80", "allow dev t wéb 80", "allow dev t w?b 80", "allow dev t [::1] 80", "allow dev t web:80 80", "allow dev t w/b 80", "allow dev t w~b 80", "allow dev t w+b 80", "allow dev t w,b 80", "allow dev t w`b 80", "allow dev t w{b 80", "allow dev t w@b 80", "allow dev t w\xffb 80", "allow dev t w\x00b 80", "allow dev t " + strings.Repeat("h", 33) + " 80", "allow dev t " + strings.Repeat("*", 33) + " 80",
	"allow dev t web 0", "allow dev t web 65536", "allow dev t web 99999", "allow dev t web 100000", "allow dev t web 080", "allow dev t web 00080", "allow dev t web +80", "allow dev t web -80", "allow dev t web -1", "allow dev t web 8_0", "allow dev t web 0x50", "allow dev t web 8e1", "allow dev t web 80.0", "allow dev t web a", "allow dev t web ٣", "allow dev t web -", "allow dev t web 18446744073709551696", "allow dev t web 99999999999999999999999999999999999",
	"allow dev t web 9-1", "allow dev t web 10-9", "allow dev t web 2-1", "allow dev t web 65535-1", "allow dev t web 0-9", "allow dev t web 0-0", "allow dev t web 1-65536", "allow dev t web 65536-65536", "allow dev t web 65535-65536", "allow dev t web 01-9", "allow dev t web 1-09", "allow dev t web 1-+9", "allow dev t web 1-", "allow dev t web -9", "allow dev t web 1--9", "allow dev t web 1-9-", "allow dev t web 1-2-3", "allow dev t web 1 - 9", "allow dev t web 1:9", "allow dev t web 1,9", "allow dev t web a-9", "allow dev t web 1-b", "allow dev t web 1-0",
	"allow dev t web **", "allow dev t web 1-*", "allow dev t web *-1", "allow dev t web *-*", "allow dev t web *-", "allow dev t web 8*", "allow dev t web *80",
}

// The text of the chapter's example, as an empty line and a comment stand in it.
func TestP16_1Parse(t *testing.T) {
	p := parsed(t, "# first\ndeny * t db*.x 5432\n\nallow dev t * 1-9999\n")
	expect(t, p, denying("*", "t", "db*.x", 5432, 5432), with("dev", "t", "*", 1, 9999))
	if got := p.Text(); got != "deny * t db*.x 5432\nallow dev t * 1-9999\n" {
		t.Error(got)
	}
}

func TestP16_1Lines(t *testing.T) {
	for _, c := range goodLines {
		written := c.written
		if written == "" {
			written = c.line
		}
		for _, text := range []string{c.line, c.line + "\n", "\n" + c.line + "\n\n", "#\n" + c.line + "\n# " + c.line, "#" + c.line + "\n" + c.line} {
			p := parsed(t, text)
			expect(t, p, c.rule)
			if got := p.Text(); got != written+"\n" {
				t.Errorf("%q, not %q", got, written)
			}
		}
		if got, e := c.rule.Text(); got != written || e != api.OK {
			t.Errorf("%q %d, not %q", got, e, written)
		}
		expect(t, made(t, c.rule), c.rule)
	}
}

// All lines together, with and without the last line's end.
func TestP16_1LinesInOrder(t *testing.T) {
	var lines, written []string
	var rules []rule.Rule
	for _, c := range goodLines {
		lines = append(lines, c.line)
		text, _ := c.rule.Text()
		written = append(written, text)
		rules = append(rules, c.rule)
	}
	for _, text := range []string{strings.Join(lines, "\n"), strings.Join(lines, "\n") + "\n", strings.Join(lines, "\n\n#\n\n"), "\n\n" + strings.Join(lines, "\n#x\n") + "\n#"} {
		p := parsed(t, text)
		expect(t, p, rules...)
		if got := p.Text(); got != strings.Join(written, "\n")+"\n" {
			t.Error(got)
		}
	}
}

// Nothing but lines that are skipped.
func TestP16_1NoRules(t *testing.T) {
	for _, text := range []string{"", "\n", "\n\n\n", "#", "##", "#\n", "# allow * * * *", "#allow * * * *\n", "\n# x\r\n\n#\xff\x00", strings.Repeat("\n", api.MaxText), "#" + strings.Repeat("x", api.MaxText-1)} {
		p := parsed(t, text)
		expect(t, p)
		if got := p.Text(); got != "" {
			t.Error(got)
		}
		if p.May("dev", "t", "web", 80) {
			t.Error("an empty policy allows something")
		}
	}
}

// The number of the first invalid line counts the lines that are skipped too.
func TestP16_1InvalidLines(t *testing.T) {
	good := "allow dev t web 80\n"
	for _, bad := range badLines {
		refused(t, bad, 1, api.ErrForm)
		refused(t, bad+"\n", 1, api.ErrForm)
		refused(t, "\n"+bad, 2, api.ErrForm)
		refused(t, "# x\n\n"+good+bad+"\n"+good, 4, api.ErrForm)
		refused(t, good+good+bad+"\n"+bad+"\n", 3, api.ErrForm)
		refused(t, strings.Repeat("\n", 300)+bad, 301, api.ErrForm)
	}
}

func TestP16_1OrderOfErrors(t *testing.T) {
	good := "allow * * * *\n"
	short := func(text string, size int) string { return "#" + strings.Repeat("x", size-len(text)-2) + "\n" + text }
	// Too many bytes, whatever they are.
	for _, text := range []string{"", "x\n", strings.Repeat(good, 32), strings.Repeat(good, 33), strings.Repeat(good, 33) + "x\n"} {
		refused(t, short(text, api.MaxText+1), 0, api.ErrLong)
		refused(t, short(text, 3*api.MaxText), 0, api.ErrLong)
		refused(t, text+strings.Repeat("\n", api.MaxText+1-len(text)), 0, api.ErrLong)
	}
	expect(t, parsed(t, short(good, api.MaxText)), with("*", "*", "*", 1, maxPort))
	refused(t, short("x\n", api.MaxText), 2, api.ErrForm)
	refused(t, short(strings.Repeat(good, 33), api.MaxText), 0, api.ErrFull)
	// Too many rules, and an invalid line anywhere.
	for count := range 70 {
		text := strings.Repeat(good, count)
		refused(t, text+"x", count+1, api.ErrForm)
		refused(t, "x\n"+text, 1, api.ErrForm)
		refused(t, text+"x\n"+text, count+1, api.ErrForm)
		if count <= api.MaxRules {
			if p := parsed(t, text); p.Len() != count || p.Text() != text {
				t.Error(count, p.Len())
			}
			parsed(t, "\n"+strings.ReplaceAll(text, "\n", "\n#\n"))
		} else {
			refused(t, text, 0, api.ErrFull)
			refused(t, strings.TrimSuffix(text, "\n"), 0, api.ErrFull)
			refused(t, "#\n"+text, 0, api.ErrFull)
		}
	}
}

// lineForm is the form of a rule's line, but for its numbers.
var lineForm = regexp.MustCompile(`^(allow|deny) (\*|[a-z0-9_-]{1,32}) (\*|[a-z0-9_-]{1,32}) ([a-z0-9._*-]{1,32}) (?:(\*)|([1-9][0-9]{0,4})(?:-([1-9][0-9]{0,4}))?)$`)

// read is a slow reading of the chapter: the rule of a line.
func read(line string) (rule.Rule, bool) {
	m := lineForm.FindStringSubmatch(line)
	if m == nil {
		return rule.Rule{}, false
	}
	r := rule.Rule{Allow: m[1] == "allow", Role: m[2], Tenant: m[3], Host: m[4], From: 1, To: maxPort}
	if m[5] == "" {
		r.From, _ = strconv.Atoi(m[6])
		r.To = r.From
	}
	if m[7] != "" {
		r.To, _ = strconv.Atoi(m[7])
	}
	return r, r.To <= maxPort && r.From <= r.To
}

// Whatever is changed in a line: it is accepted if and only if it is a line.
func TestP16_1Changes(t *testing.T) {
	accepted := 0
	check := func(line string) {
		t.Helper()
		if line == "" || line[0] == '#' {
			return
		}
		r, ok := read(line)
		p, n, e := rule.Parse("\n" + line)
		if !ok {
			if p != nil || n != 2 || e != api.ErrForm {
				t.Fatalf("%q: line %d, %d", line, n, e)
			}
			return
		}
		accepted++
		if n != 0 || e != api.OK {
			t.Fatalf("%q: line %d, %d", line, n, e)
		}
		expect(t, p, r)
	}
	for _, line := range []string{"deny * t db*.x 5432", "allow dev t * 1-9999", "allow dev * a-_.9 *", "allow " + strings.Repeat("r", 32) + " " + strings.Repeat("t", 32) + " " + strings.Repeat("*", 32) + " 9999-65535"} {
		check(line)
		for i := range len(line) {
			check(line[:i] + line[i+1:])
			for b := range 256 {
				if b != '\n' {
					check(line[:i] + string([]byte{byte(b)}) + line[i+1:])
					check(line[:i] + string([]byte{byte(b)}) + line[i:])
				}
			}
		}
		words := strings.Split(line, " ")
		for i := range words {
			for _, word := range []string{"", "*", "**", "allow", "deny", "a", "A", "#", "-", ".", "0", "1", "65535", "65536", "1-1", "1-65535", "2-1", "é", "\xff"} {
				changed := slices.Clone(words)
				changed[i] = word
				check(strings.Join(changed, " "))
				check(strings.Join(slices.Insert(slices.Clone(words), i, word), " "))
			}
			check(strings.Join(slices.Delete(slices.Clone(words), i, i+1), " "))
		}
	}
	if accepted < 1000 {
		t.Error("few lines were accepted", accepted)
	}
}

// Every port, and every range near the bounds and between numbers of different lengths.
func TestP16_1Ports(t *testing.T) {
	for port := -1; port <= 70000; port++ {
		number := strconv.Itoa(port)
		p, n, e := rule.Parse("allow a b c " + number)
		r := with("a", "b", "c", port, port)
		text, errno := r.Text()
		if port < 1 || port > maxPort {
			if p != nil || n != 1 || e != api.ErrForm || text != "" || errno != api.ErrForm {
				t.Fatal(port, n, e, text, errno)
			}
			continue
		}
		if p.Len() != 1 || n != 0 || e != api.OK || text != "allow a b c "+number || errno != api.OK {
			t.Fatal(port, n, e, text, errno)
		}
		expect(t, p, r)
	}
	ends := []int{-1, 0, 1, 2, 9, 10, 11, 99, 100, 999, 1000, 9999, 10000, maxPort - 1, maxPort, maxPort + 1}
	for _, from := range ends {
		for _, to := range ends {
			r := with("a", "b", "c", from, to)
			p, n, e := rule.Parse(fmt.Sprintf("allow a b c %d-%d", from, to))
			q, errno := rule.New(r)
			if 1 <= from && from <= to && to <= maxPort {
				if n != 0 || e != api.OK || errno != api.OK {
					t.Fatal(from, to, n, e, errno)
				}
				expect(t, p, r)
				expect(t, q, r)
			} else if p != nil || n != 1 || e != api.ErrForm || q != nil || errno != api.ErrForm {
				t.Fatal(from, to, n, e, errno)
			}
		}
	}
}

// alter returns a rule that is a little different from a valid one.
func alter(change func(*rule.Rule)) rule.Rule {
	r := with("dev", "t", "web", 80, 90)
	change(&r)
	return r
}

// badRules returns rules of which one part each is not valid.
func badRules() []rule.Rule {
	out := []rule.Rule{{}, {Allow: true}}
	for _, from := range []int{0, -1, 91, maxPort + 1, math.MinInt, math.MaxInt} {
		out = append(out, alter(func(r *rule.Rule) { r.From = from }))
	}
	for _, to := range []int{0, -1, 79, maxPort + 1, math.MinInt, math.MaxInt} {
		out = append(out, alter(func(r *rule.Rule) { r.To = to }))
	}
	for _, port := range []int{0, -1, maxPort + 1, math.MinInt, math.MaxInt} {
		out = append(out, alter(func(r *rule.Rule) { r.From, r.To = port, port }))
	}
	for _, word := range []string{"", "A", "a.b", "**", "a*", "*a", "a b", " ", "é", "\xff", "a\n", "\n", "#", "a\u00ad", strings.Repeat("a", 33)} {
		out = append(out, alter(func(r *rule.Rule) { r.Role = word }), alter(func(r *rule.Rule) { r.Tenant = word }))
	}
	for _, host := range []string{"", "A", "wEb", "a b", " ", "é", "\xff", "a\n", "\n", "#", "a?", "a:1", "[a]", "a/b", "a\u00ad", strings.Repeat("a", 33), strings.Repeat("*", 33)} {
		out = append(out, alter(func(r *rule.Rule) { r.Host = host }))
	}
	return out
}

func TestP16_1RuleText(t *testing.T) {
	for _, r := range badRules() {
		if text, e := r.Text(); text != "" || e != api.ErrForm {
			t.Errorf("%+v: %q %d", r, text, e)
		}
	}
	// Every byte in every word.
	for b := range 256 {
		sign := string([]byte{byte(b)})
		plain := regexp.MustCompile(`^[a-z0-9_-]$`).MatchString(sign)
		for _, c := range []struct {
			rule rule.Rule
			want bool
		}{
			{alter(func(r *rule.Rule) { r.Role = sign }), plain || sign == "*"},
			{alter(func(r *rule.Rule) { r.Tenant = sign }), plain || sign == "*"},
			{alter(func(r *rule.Rule) { r.Role = "a" + sign }), plain},
			{alter(func(r *rule.Rule) { r.Tenant = sign + "a" }), plain},
			{alter(func(r *rule.Rule) { r.Host = sign }), plain || sign == "*" || sign == "."},
			{alter(func(r *rule.Rule) { r.Host = "a" + sign + "a" }), plain || sign == "*" || sign == "."},
		} {
			text, e := c.rule.Text()
			want := "allow " + c.rule.Role + " " + c.rule.Tenant + " " + c.rule.Host + " 80-90"
			if c.want && (e != api.OK || text != want) || !c.want && (e != api.ErrForm || text != "") {
				t.Errorf("%+v: %q %d", c.rule, text, e)
			}
		}
	}
}

func TestP16_1New(t *testing.T) {
	expect(t, made(t))
	expect(t, made(t, []rule.Rule{}...))
	good := with("dev", "t", "web", 80, 90)
	expect(t, made(t, good, good), good, good)
	for _, bad := range badRules() {
		for _, rules := range [][]rule.Rule{{bad}, {good, bad}, {bad, good}, {good, bad, good}, append(slices.Repeat([]rule.Rule{good}, 40), bad), append([]rule.Rule{bad}, slices.Repeat([]rule.Rule{good}, 40)...)} {
			if p, e := rule.New(rules...); p != nil || e != api.ErrForm {
				t.Errorf("%+v: %d", bad, e)
			}
		}
	}
	for count := range 40 {
		rules := slices.Repeat([]rule.Rule{good}, count)
		if count <= api.MaxRules {
			expect(t, made(t, rules...), rules...)
		} else if p, e := rule.New(rules...); p != nil || e != api.ErrFull {
			t.Error(count, e)
		}
	}
}

// A policy keeps nothing of what it was made from, and changes nothing in it.
func TestP16_1Memory(t *testing.T) {
	a, b, c := with("a", "t", "web", 1, 2), denying("b", "t", "web", 3, 4), with("c", "t", "web", 5, 6)
	rules := []rule.Rule{a, b, c}
	p := made(t, rules[:2]...)
	if !slices.Equal(rules, []rule.Rule{a, b, c}) {
		t.Error(rules)
	}
	clear(rules)
	expect(t, p, a, b)
	q := made(t, c)
	expect(t, p, a, b)
	expect(t, q, c)
}

// random returns a rule of words that are often equal to others.
func random(r *rand.Rand) rule.Rule {
	pick := func(from ...string) string { return from[r.Intn(len(from))] }
	ports := []int{1, 2, 9, 80, 81, 443, 9999, maxPort - 1, maxPort}
	i, j := r.Intn(len(ports)), r.Intn(len(ports))
	host := pick("*", "*", "a*", "*b", "")
	for host == "" || r.Intn(3) == 0 {
		host += pick("a", "b", "*", ".", "ab", "*a")
	}
	host = host[:min(len(host), api.MaxName)]
	return rule.Rule{
		Allow:  r.Intn(2) == 0,
		Role:   pick("*", "*", "dev", "ops", "-"),
		Tenant: pick("*", "*", "t", "u"),
		Host:   host,
		From:   ports[min(i, j, r.Intn(len(ports)))],
		To:     ports[max(i, j)],
	}
}

func TestP16_1RoundTrip(t *testing.T) {
	r := rand.New(rand.NewSource(16))
	for range 2000 {
		var rules []rule.Rule
		want := ""
		for range r.Intn(api.MaxRules + 1) {
			x := random(r)
			line, e := x.Text()
			if back, ok := read(line); e != api.OK || !ok || back != x {
				t.Fatalf("%+v: %q %d", x, line, e)
			}
			rules = append(rules, x)
			want += line + "\n"
		}
		p := made(t, rules...)
		if text := p.Text(); text != want {
			t.Fatalf("%q, not %q", text, want)
		}
		expect(t, parsed(t, want), rules...)
	}
	// The longest text that a policy has can be parsed.
	long := strings.Repeat("x", 32)
	p := made(t, slices.Repeat([]rule.Rule{with(long, long, long, 10000, 20000)}, api.MaxRules)...)
	expect(t, parsed(t, p.Text()), content(t, p)...)
}

// The chapter's example.
func TestP16_2Example(t *testing.T) {
	p := made(t, denying("*", "t", "db*.x", 5432, 5432), with("dev", "t", "*", 1, 9999))
	if p.May("dev", "t", "db1.x", 5432) || !p.May("dev", "t", "DB1.y", 5432) {
		t.Error("may")
	}
}

func TestP16_2May(t *testing.T) {
	p := parsed(t, "deny * * bad* *\nallow dev t * 80\nallow ops * db 1-9999\nallow * u *.in *\ndeny dev t web 80\n")
	for _, c := range []struct {
		role, tenant, host string
		port, want         int // the index of the rule, or -1
	}{
		{"dev", "t", "web", 80, 1},
		{"dev", "t", "WEB", 80, 1},
		{"dev", "t", "web", 81, -1},
		{"dev", "t", "bad", 80, 0},
		{"dev", "t", "Bad.x", 80, 0},
		{"x", "y", "bAD", 1, 0},
		{"", "", "bad", maxPort, 0},
		{"dev", "t", "bad", 0, -1},
		{"dev", "t", "bad", maxPort + 1, -1},
		{"dev", "t", "bad", -1, -1},
		{"dev", "t", "bad", math.MinInt, -1},
		{"dev", "t", "bad", math.MaxInt, -1},
		{"dev", "t", "", 80, 1},
		{"dev", "t", "a\nb\xff", 80, 1},
		{"Dev", "t", "web", 80, -1},
		{"dev", "T", "web", 80, -1},
		{"*", "t", "web", 80, -1},
		{"dev", "*", "web", 80, -1},
		{"", "t", "web", 80, -1},
		{"dev", "", "web", 80, -1},
		{"devs", "t", "web", 80, -1},
		{"de", "t", "web", 80, -1},
		{"ops", "t", "db", 1, 2},
		{"ops", "t", "db", 9999, 2},
		{"ops", "t", "db", 10000, -1},
		{"ops", "t", "db", 0, -1},
		{"ops", "*", "DB", 5, 2},
		{"ops", "t", "db2", 5, -1},
		{"ops", "t", "d", 5, -1},
		{"ops", "u", "db.in", 5, 3},
		{"", "u", ".IN", maxPort, 3},
		{"*", "u", "x.in", 1, 3},
		{"ops", "u", "in", 5, -1},
		{"ops", "u", "x.in.", 5, -1},
	} {
		i, ok := p.Which(c.role, c.tenant, c.host, c.port)
		if ok != (c.want >= 0) || i != max(c.want, 0) {
			t.Errorf("%+v: %d %v", c, i, ok)
		}
		if may := p.May(c.role, c.tenant, c.host, c.port); may != (c.want > 0 && c.want < 4) {
			t.Errorf("%+v: %v", c, may)
		}
	}
}

// matches is a slow reading of the chapter. A star matches no byte, or one and perhaps more.
func matches(pattern, host string) bool {
	if pattern == "" {
		return host == ""
	}
	if pattern[0] == '*' && matches(pattern[1:], host) {
		return true
	}
	if host == "" {
		return false
	}
	sign := host[0]
	if i := strings.IndexByte("ABCDEFGHIJKLMNOPQRSTUVWXYZ", sign); i >= 0 {
		sign = "abcdefghijklmnopqrstuvwxyz"[i]
	}
	return pattern[0] == '*' && matches(pattern, host[1:]) || pattern[0] != '*' && pattern[0] == sign && matches(pattern[1:], host[1:])
}

// texts returns all texts of these pieces, with at most so many.
func texts(most int, pieces ...string) []string {
	out, last := []string{""}, []string{""}
	for range most {
		var next []string
		for _, text := range last {
			for _, piece := range pieces {
				next = append(next, text+piece)
			}
		}
		out, last = append(out, next...), next
	}
	return out
}

func TestP16_2Match(t *testing.T) {
	for _, c := range []struct {
		pattern, host string
		want          bool
	}{
		{"a", "a", true}, {"a", "A", true}, {"a", "b", false}, {"a", "ab", false}, {"a", "ba", false}, {"a", "", false},
		{"*", "", true}, {"*", "anything\n\x00\xff", true}, {"**", "", true}, {"***", "a", true},
		{"a*", "a", true}, {"a*", "ab", true}, {"a*", "ba", false}, {"a*", "", false}, {"*a", "a", true}, {"*a", "ba", true}, {"*a", "ab", false},
		{"a*a", "a", false}, {"a*a", "aa", true}, {"a*a", "aba", true}, {"a*a", "ab", false}, {"ab*ba", "aba", false}, {"ab*ba", "abba", true}, {"a*b", "abc", false}, {"a*b", "abcb", true},
		{"a*b*c", "aXbYc", true}, {"a*b*c", "acb", false}, {"*ab*ab*", "abab", true}, {"*ab*ab*", "aba", false}, {"*ab*ab", "aabab", true}, {"a*bc*c", "abcbc", true}, {"a*bc*c", "abc", false},
		{"**a", "xa", true}, {"a**", "a", true}, {"a**b", "ab", true}, {"*.x", ".x", true}, {"*.x", "x", false}, {"db*.x", "DB1.X", true},
		{"x", "*", false}, {"*", "*", true}, {"**", "*", true}, {"a*", "A*", true},
		// Dots and dashes stand for themselves.
		{"a.b", "axb", false}, {"a-c", "abc", false}, {"a_", "a-", false},
		// What is not a pattern is matched all the same, and only the host's letters become lower case.
		{"", "", true}, {"", "a", false}, {"A", "a", false}, {"A", "A", false}, {"A*", "Ab", false}, {"a b?", "A B?", true}, {"?", "a", false}, {"[a]", "[A]", true}, {"[a]", "a", false}, {"\\*", "\\x", true}, {"\n*\x00", "\n\xff\x00", true},
		// Only A to Z become lower case.
		{"@[`{", "@[`{", true}, {"`{", "@[", false}, {"az", "AZ", true}, {"é", "É", false}, {"é", "é", true}, {"É", "É", true}, {"k", "\u212a", false}, {"\u212a", "\u212a", true}, {"s", "\u017f", false}, {"i", "\u0130", false}, {"ß", "ẞ", false}, {"\xe9", "\xc9", false},
		{"\xff*", "\xff", true}, {"\xef\xbf\xbd", "\xff", false}, {"\xff", "\xff", true}, {"*\xa9", "é", true}, {"\xc3*", "é", true},
		// More than MaxName bytes.
		{strings.Repeat("a", 100), strings.Repeat("A", 100), true}, {strings.Repeat("a", 100), strings.Repeat("a", 99), false}, {strings.Repeat("*a", 50), strings.Repeat("a", 50), true}, {strings.Repeat("*a", 50), strings.Repeat("a", 49), false},
	} {
		if got := rule.Match(c.pattern, c.host); got != c.want {
			t.Errorf("%q %q: %v", c.pattern, c.host, got)
		}
	}
}

func TestP16_2MatchEverything(t *testing.T) {
	hosts := texts(6, "a", "b")
	hosts = append(hosts, texts(4, "a", "A", "B", "*")...)
	for _, pattern := range texts(6, "a", "b", "*") {
		for _, host := range hosts {
			if got, want := rule.Match(pattern, host), matches(pattern, host); got != want {
				t.Fatalf("%q %q: %v", pattern, host, got)
			}
		}
	}
	// Every byte of a host.
	for b := range 256 {
		for c := range 256 {
			pattern, host := string([]byte{byte(b)}), string([]byte{byte(c)})
			for _, more := range []string{"", "*", "x"} {
				if got, want := rule.Match(pattern+more, host+more), matches(pattern+more, host+more); got != want {
					t.Fatalf("%q %q: %v", pattern+more, host+more, got)
				}
			}
		}
	}
}

// Many stars don't make it try every way to share a host among them.
func TestP16_2MatchEnds(t *testing.T) {
	begin := time.Now()
	host := strings.Repeat("a", 1<<16)
	for _, c := range []struct {
		pattern string
		want    bool
	}{
		{strings.Repeat("*a", 1000) + "*b", false},
		{strings.Repeat("*a", 1000) + "*b*", false},
		{strings.Repeat("a*", 1000) + "b", false},
		{strings.Repeat("*a", 1<<16), true},
		{strings.Repeat("*a", 1<<16) + "*a", false},
		{strings.Repeat("*", 1<<20), true},
		{strings.Repeat("*", 1<<20) + "b", false},
		{strings.Repeat("aa*", 1<<15), true},
	} {
		if got := rule.Match(c.pattern, host); got != c.want {
			t.Errorf("%.20q: %v", c.pattern, got)
		}
	}
	if took := time.Since(begin); took > 20*time.Second {
		t.Error("it took", took)
	}
}

// holds is a slow reading of the chapter.
func holds(r rule.Rule, role, tenant, host string, port int) bool {
	return (r.Role == "*" || r.Role == role) && (r.Tenant == "*" || r.Tenant == tenant) && matches(r.Host, host) && port >= r.From && port <= r.To
}

func TestP16_2Holds(t *testing.T) {
	r := with("dev", "t", "db*", 80, 90)
	for _, c := range []struct {
		role, tenant, host string
		port               int
		want               bool
	}{
		{"dev", "t", "db", 80, true}, {"dev", "t", "DB1", 90, true}, {"dev", "t", "db", 79, false}, {"dev", "t", "db", 91, false}, {"dev", "t", "d", 80, false},
		{"de", "t", "db", 80, false}, {"dev2", "t", "db", 80, false}, {"*", "t", "db", 80, false}, {"", "t", "db", 80, false}, {"DEV", "t", "db", 80, false},
		{"dev", "", "db", 80, false}, {"dev", "*", "db", 80, false}, {"dev", "t2", "db", 80, false}, {"dev", "T", "db", 80, false},
	} {
		for _, allow := range []bool{true, false} {
			r.Allow = allow
			if got := r.Holds(c.role, c.tenant, c.host, c.port); got != c.want {
				t.Errorf("%+v: %v", c, got)
			}
		}
	}
	for _, role := range []string{"", "*", "dev", "not plain", "\xff"} {
		if !with("*", "t", "h", 1, 2).Holds(role, "t", "h", 1) || !with("r", "*", "h", 1, 2).Holds("r", role, "h", 2) || !with("*", "*", "*", 1, 2).Holds(role, role, role, 1) {
			t.Errorf("%q", role)
		}
	}
}

// words, hosts and ports of connections.
var (
	roles   = []string{"", "*", "dev", "ops", "-"}
	tenants = []string{"", "*", "t", "u"}
	hosts   = []string{"", "a", "A", "b", "ab", "aB", "ba", "a.b", ".", "..", "a.", ".a", "aa", "abab", "b.ab", "*", "x"}
	ports   = []int{0, 1, 2, 8, 9, 10, 80, 81, 443, 9999, maxPort - 1, maxPort, maxPort + 1}
)

func TestP16_2Random(t *testing.T) {
	r := rand.New(rand.NewSource(17))
	found, allowed := 0, 0
	for range 300 {
		var rules []rule.Rule
		for range r.Intn(10) {
			rules = append(rules, random(r))
		}
		p := made(t, rules...)
		for range 300 {
			role, tenant, host, port := roles[r.Intn(len(roles))], tenants[r.Intn(len(tenants))], hosts[r.Intn(len(hosts))], ports[r.Intn(len(ports))]
			want := -1
			for i := len(rules) - 1; i >= 0; i-- {
				h := holds(rules[i], role, tenant, host, port)
				if rules[i].Holds(role, tenant, host, port) != h {
					t.Fatal(rules[i], role, tenant, host, port)
				}
				if h {
					want = i
				}
			}
			i, ok := p.Which(role, tenant, host, port)
			if ok != (want >= 0) || i != max(want, 0) {
				t.Fatalf("%q %q %q %d: %d %v, not %d", role, tenant, host, port, i, ok, want)
			}
			may := p.May(role, tenant, host, port)
			if may != (want >= 0 && rules[want].Allow) {
				t.Fatalf("%q %q %q %d: %v", role, tenant, host, port, may)
			}
			if ok {
				found++
			}
			if may {
				allowed++
			}
		}
	}
	if found < 10000 || allowed < 5000 || found == allowed {
		t.Error("few connections were decided", found, allowed)
	}
}

func TestP16_2Rules(t *testing.T) {
	want := []rule.Rule{with("a", "t", "web", 1, 2), denying("b", "t", "web", 3, 4), with("a", "t", "web", 1, 2)}
	p := made(t, want...)
	all := p.Rules()
	for stop := 1; stop <= 3; stop++ {
		for range 2 {
			var got []rule.Rule
			for i, r := range all {
				got = append(got, r)
				if i+1 == stop {
					break
				}
			}
			if !slices.Equal(got, want[:stop]) {
				t.Fatal(got)
			}
		}
	}
	expect(t, p, want...)
	// Iterations within others don't disturb them.
	var got []int
	for i := range all {
		for j := range all {
			got = append(got, 10*i+j)
		}
	}
	if !slices.Equal(got, []int{0, 1, 2, 10, 11, 12, 20, 21, 22}) {
		t.Error(got)
	}
}

// covers is a slow reading of the chapter.
func covers(r, o rule.Rule) bool {
	role := r.Role == "*" || r.Role == o.Role
	tenant := r.Tenant == "*" || r.Tenant == o.Tenant
	stars := strings.Count(r.Host, "*")
	size := len(r.Host) - 1
	host := r.Host == "*" || r.Host == o.Host
	if stars == 1 && r.Host[size] == '*' && len(o.Host) >= size && o.Host[:size] == r.Host[:size] {
		host = true
	}
	if stars == 1 && r.Host[0] == '*' && len(o.Host) >= size && o.Host[len(o.Host)-size:] == r.Host[1:] {
		host = true
	}
	return role && tenant && host && r.From <= o.From && r.To >= o.To
}

func TestP16_2Covers(t *testing.T) {
	host := func(pattern string) rule.Rule { return with("r", "t", pattern, 10, 20) }
	for _, c := range []struct {
		r, o rule.Rule
		want bool
	}{
		{host("a"), host("a"), true}, {host("a"), host("b"), false}, {host("a"), host("ab"), false}, {host("a"), host("*"), false}, {host("a"), host("a*"), false},
		{host("*"), host("a"), true}, {host("*"), host("*"), true}, {host("*"), host("**"), true}, {host("*"), host("a*b*"), true},
		{host("a*"), host("a"), true}, {host("a*"), host("ab"), true}, {host("a*"), host("a*"), true}, {host("a*"), host("a*b"), true}, {host("a*"), host("ab*"), true}, {host("a*"), host("a**"), true}, {host("a*"), host("ba"), false}, {host("a*"), host("*a"), false}, {host("a*"), host("*"), false}, {host("ab*"), host("a"), false}, {host("ab*"), host("a*"), false},
		{host("*a"), host("a"), true}, {host("*a"), host("ba"), true}, {host("*a"), host("*a"), true}, {host("*a"), host("b*a"), true}, {host("*a"), host("*ba"), true}, {host("*a"), host("**a"), true}, {host("*a"), host("ab"), false}, {host("*a"), host("a*"), false}, {host("*ab"), host("b"), false}, {host("*ab"), host("*b"), false},
		// A star in the middle, or two of them, cover only the same pattern.
		{host("a*b"), host("a*b"), true}, {host("a*b"), host("ab"), false}, {host("a*b"), host("axb"), false}, {host("a*b"), host("a"), false}, {host("a*b"), host("b"), false}, {host("**"), host("**"), true}, {host("**"), host("a"), false}, {host("**"), host("*"), false}, {host("*a*"), host("a"), false}, {host("*a*"), host("*a*"), true}, {host("*a*"), host("*a*b"), false}, {host("a**"), host("a*"), false}, {host("**a"), host("*a"), false},
		// Roles and tenants.
		{with("*", "t", "a", 10, 20), host("a"), true}, {with("r", "*", "a", 10, 20), host("a"), true}, {with("*", "*", "a", 10, 20), host("a"), true}, {with("s", "t", "a", 10, 20), host("a"), false}, {with("r", "u", "a", 10, 20), host("a"), false},
		{host("a"), with("*", "t", "a", 10, 20), false}, {host("a"), with("r", "*", "a", 10, 20), false}, {with("*", "*", "a", 10, 20), with("*", "*", "a", 10, 20), true},
		// Ports.
		{with("r", "t", "a", 9, 20), host("a"), true}, {with("r", "t", "a", 11, 20), host("a"), false}, {with("r", "t", "a", 10, 21), host("a"), true}, {with("r", "t", "a", 10, 19), host("a"), false}, {with("r", "t", "a", 1, maxPort), host("a"), true}, {with("r", "t", "a", 15, 15), host("a"), false}, {with("r", "t", "a", 20, 30), host("a"), false},
		// It doesn't matter what they do.
		{host("*"), denying("r", "t", "a", 10, 20), true}, {denying("r", "t", "*", 10, 20), host("a"), true},
	} {
		if got := c.r.Covers(c.o); got != c.want || covers(c.r, c.o) != c.want {
			t.Errorf("%+v %+v: %v", c.r, c.o, got)
		}
	}
}

// Only an earlier rule counts, also one that is idle itself.
func TestP16_2Idle(t *testing.T) {
	for _, c := range []struct {
		text string
		want []int
	}{
		{"", nil},
		{"allow * * * *", nil},
		{"allow * * * *\nallow * * * *", []int{1}},
		{"allow * * * *\ndeny * * * *\nallow a b c 5", []int{1, 2}},
		{"allow a b c 5\nallow * * * *", nil},
		{"allow a b c 5\nallow * * * *\ndeny a b c 5", []int{2}},
		{"deny * t db*.x 5432\nallow dev t * 1-9999\nallow dev t web 80\nallow * * *.in *\n", []int{2}},
		{"allow a * * 1-10\nallow b * * 1-10\nallow b * x 9-10\nallow c * * *\nallow a t *y 1", []int{2, 4}},
		{"allow a t a* *\nallow a t ab* *\nallow a t abc *\nallow * t abc *", []int{1, 2}},
		// Rules that only together match what another matches.
		{"allow a t x 1-10\nallow a t x 11-20\nallow a t x 1-20\nallow a t x 5-15", []int{3}},
	} {
		p := parsed(t, c.text)
		got := p.Idle()
		if !slices.Equal(got, c.want) {
			t.Errorf("%q: %v", c.text, got)
		}
		for i := range got[:cap(got)] {
			got[:cap(got)][i] = -1
		}
		if again := p.Idle(); !slices.Equal(again, c.want) {
			t.Errorf("%q: %v, after the result was overwritten", c.text, again)
		}
	}
}

func TestP16_2NilPolicy(t *testing.T) {
	var p *rule.Policy
	if p.Text() != "" || p.May("a", "b", "c", 1) || p.Len() != 0 || len(p.Idle()) != 0 {
		t.Error("a nil policy has something")
	}
	if i, ok := p.Which("a", "b", "c", 1); i != 0 || ok {
		t.Error(i, ok)
	}
	all := p.Rules()
	if all == nil {
		t.Fatal("no function")
	}
	for i, r := range all {
		t.Error(i, r)
	}
}

// All patterns of a few signs: what covers another pattern matches every host that the other matches.
func TestP16_3Patterns(t *testing.T) {
	patterns := texts(4, "a", "b", "*")[1:]
	all := append(texts(6, "a", "b"), "A", "aB", "BA")
	matched := map[string][]bool{}
	for _, pattern := range patterns {
		for _, host := range all {
			matched[pattern] = append(matched[pattern], rule.Match(pattern, host))
		}
	}
	count := 0
	for _, x := range patterns {
		for _, y := range patterns {
			r, o := with("r", "t", x, 1, 1), denying("r", "t", y, 1, 1)
			got := r.Covers(o)
			if got != covers(r, o) {
				t.Fatal(x, y, got)
			}
			if !got {
				continue
			}
			count++
			for i, host := range all {
				if matched[y][i] && !matched[x][i] {
					t.Fatal(x, y, host)
				}
			}
		}
	}
	if count < len(patterns) {
		t.Error("few patterns cover others", count)
	}
}

// Random policies: an idle rule never decides, and what is covered matches nothing more.
func TestP16_3Random(t *testing.T) {
	r := rand.New(rand.NewSource(18))
	idle := 0
	for range 300 {
		var rules []rule.Rule
		for range r.Intn(12) {
			rules = append(rules, random(r))
		}
		p := made(t, rules...)
		var want []int
		for i, x := range rules {
			for _, y := range rules {
				if x.Covers(y) != covers(x, y) {
					t.Fatal(x, y)
				}
			}
			if slices.ContainsFunc(rules[:i], func(y rule.Rule) bool { return covers(y, x) }) {
				want = append(want, i)
			}
		}
		if got := p.Idle(); !slices.Equal(got, want) {
			t.Fatalf("%q: %v, not %v", p.Text(), got, want)
		}
		idle += len(want)
		for range 300 {
			role, tenant, host, port := roles[r.Intn(len(roles))], tenants[r.Intn(len(tenants))], hosts[r.Intn(len(hosts))], ports[r.Intn(len(ports))]
			if i, ok := p.Which(role, tenant, host, port); ok && slices.Contains(want, i) {
				t.Fatalf("%q %q %q %d: %d decides in %q", role, tenant, host, port, i, p.Text())
			}
			for _, x := range rules {
				for _, y := range rules {
					if x.Covers(y) && y.Holds(role, tenant, host, port) && !x.Holds(role, tenant, host, port) {
						t.Fatal(x, y, role, tenant, host, port)
					}
				}
			}
		}
	}
	if idle < 100 {
		t.Error("few rules were idle", idle)
	}
}

// Whatever rules contain, also if they are not valid, what is covered matches nothing more.
func TestP16_3AnyRules(t *testing.T) {
	r := rand.New(rand.NewSource(19))
	words := []string{"", "*", "**", "a", "A", "a*", "A*", "*a", "*A", "\xff", "\xff*", "a*a"}
	numbers := []int{math.MinInt, -1, 0, 1, 2, maxPort, maxPort + 1, math.MaxInt}
	pick := func() string { return words[r.Intn(len(words))] }
	number := func() int { return numbers[r.Intn(len(numbers))] }
	count := 0
	for range 200000 {
		x, y := with(pick(), pick(), pick(), number(), number()), with(pick(), pick(), pick(), number(), number())
		role, tenant, host, port := pick(), pick(), pick(), number()
		if x.Holds(role, tenant, host, port) != holds(x, role, tenant, host, port) {
			t.Fatal(x, role, tenant, host, port)
		}
		if x.Covers(y) {
			count++
			if y.Holds(role, tenant, host, port) && !x.Holds(role, tenant, host, port) {
				t.Fatal(x, y, role, tenant, host, port)
			}
		}
	}
	if count < 100 {
		t.Error("few rules cover others", count)
	}
}
