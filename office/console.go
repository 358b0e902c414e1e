package office

import (
	"slices"
	"strconv"
	"strings"

	"putlog/api"
	"putlog/exact"
	"putlog/parts"
	"putlog/record"
)

// dayDigits is the number of digits that a day in a line of the console may have.
const dayDigits = 5

// unknown is the answer to a line that is no command.
const unknown = "?"

// Console answers lines.
type Console struct {
	office    *Office
	catalogue api.Catalogue // without the pairs, which no answer needs
}

// NewConsole returns a console with a new office.
func NewConsole(j api.Job) (*Console, api.Errno) {
	o, e := New(j)
	if e != api.OK {
		return nil, e
	}
	return &Console{office: o, catalogue: api.Catalogue{Parts: slices.Clone(j.Catalogue.Parts)}}, api.OK
}

// Do answers a line.
func (c *Console) Do(line string) string {
	if c == nil {
		return unknown
	}
	words := strings.Split(line, " ")
	command, ok := c.commands()[words[0]]
	if !ok {
		return unknown
	}
	return command(words[1:])
}

// commands returns the commands by their first words; they answer the other words.
func (c *Console) commands() map[string]func(words []string) string {
	return map[string]func(words []string) string{
		"enter":    c.enter,
		"tag":      c.tag,
		"due":      c.platforms(record.Due),
		"released": c.platforms(record.Released),
		"account":  c.account,
		"value":    c.value,
		"bill":     c.bill,
		"free":     c.free,
		"journal":  c.journal,
	}
}

// answer returns a text, or the text of an error.
func answer(text string, e api.Errno) string {
	if e != api.OK {
		return "error " + strconv.Itoa(int(e))
	}
	return text
}

func (c *Console) enter(words []string) string {
	if len(words) == 0 {
		return unknown
	}
	return answer("ok", c.office.Enter(strings.Join(words, " ")))
}

func (c *Console) tag(words []string) string {
	if len(words) != 2 {
		return unknown
	}
	day, ok := numberOf(words[1], dayDigits)
	if !ok {
		return unknown
	}
	n, e := record.Tag(c.office.state.Record, words[0], day)
	return answer([]string{"red", "yellow", "green"}[n], e)
}

// platforms returns the command that lists the platforms that a function returns for a day.
func (c *Console) platforms(list func(l []api.Event, day int) ([]string, api.Errno)) func(words []string) string {
	return func(words []string) string {
		day, ok := onlyDay(words)
		if !ok {
			return unknown
		}
		l, e := list(c.office.state.Record, day)
		return answer(strings.Join(l, ", "), e)
	}
}

func (c *Console) account(words []string) string {
	day, ok := onlyDay(words)
	if !ok {
		return unknown
	}
	owed, e := c.office.owed(day)
	return answer(exact.Format(owed), e)
}

func (c *Console) value(words []string) string {
	if len(words) < 2 {
		return unknown
	}
	day, ok := numberOf(words[0], dayDigits)
	if !ok {
		return unknown
	}
	figures, e := c.office.Figures(day)
	if e != api.OK {
		return answer("", e)
	}
	x, e := Evaluate(strings.Join(words[1:], " "), figures)
	return answer(exact.Format(x), e)
}

func (c *Console) bill(words []string) string {
	if len(words) > 0 {
		return unknown
	}
	l, e := parts.Assign(c.catalogue, c.office.state.Scaffold)
	if e != api.OK {
		return answer("", e)
	}
	counts, e := parts.Bill(c.catalogue, l)
	var out []string
	for i, n := range counts {
		if n > 0 {
			out = append(out, c.catalogue.Parts[i].Name+": "+strconv.Itoa(n))
		}
	}
	return answer(strings.Join(out, ", "), e)
}

func (c *Console) free(words []string) string {
	if len(words) > 0 {
		return unknown
	}
	l, e := parts.Free(c.office.state.Scaffold)
	return answer(strconv.Itoa(len(l)), e)
}

func (c *Console) journal(words []string) string {
	if len(words) > 0 {
		return unknown
	}
	return strconv.Itoa(len(c.office.Journal()))
}

// onlyDay returns the day that is the only word, and whether it is so.
func onlyDay(words []string) (int, bool) {
	if len(words) != 1 {
		return 0, false
	}
	return numberOf(words[0], dayDigits)
}
