package office_test

import (
	"math/rand"
	"regexp"
	"slices"
	"strconv"
	"strings"
	"testing"

	"putlog/api"
	"putlog/building"
	"putlog/layout"
	"putlog/office"
	"putlog/parts"
	"putlog/record"
)

// withJob is all functions with a job: the results but the error, and the error.
func withJob() map[string]func(j api.Job) ([]any, api.Errno) {
	return map[string]func(j api.Job) ([]any, api.Errno){
		"CheckJob": func(j api.Job) ([]any, api.Errno) { return nil, office.CheckJob(j) },
		"PrintJob": func(j api.Job) ([]any, api.Errno) { s, e := office.PrintJob(j); return []any{s == ""}, e },
		"Next": func(j api.Job) ([]any, api.Errno) {
			s, e := office.Next(j, api.State{Moves: []api.Move{{Part: "std", Count: 1}}}, "event 0 3 - 0 0 0")
			return []any{same(s, api.State{})}, e
		},
		"Replay": func(j api.Job) ([]any, api.Errno) {
			s, n, e := office.Replay(j, []string{"event 0 3 - 0 0 0"})
			return []any{same(s, api.State{}), n == 0}, e
		},
		"New": func(j api.Job) ([]any, api.Errno) { o, e := office.New(j); return []any{o == nil}, e },
		"Recover": func(j api.Job) ([]any, api.Errno) {
			o, n, e := office.Recover(j, newJournal("event 0 3 - 0 0 0"))
			return []any{o == nil, n == 0}, e
		},
		"NewConsole": func(j api.Job) ([]any, api.Errno) { c, e := office.NewConsole(j); return []any{c == nil}, e },
	}
}

// jobFaults is faults of a job, in the order in which they are looked for.
func jobFaults() []struct {
	is    api.Errno
	spoil func(j *api.Job)
} {
	return []struct {
		is    api.Errno
		spoil func(j *api.Job)
	}{
		{api.ErrName, func(j *api.Job) { j.Name = "" }},
		{api.ErrShape, func(j *api.Job) { j.Building.Storeys = nil }},
		{api.ErrOrder, func(j *api.Job) { j.System.Bays = []int{2, 1} }},
		{api.ErrForm, func(j *api.Job) { j.Catalogue.Parts[1].Square = 1 }},
		{api.ErrExists, func(j *api.Job) { j.Terms[1].Part = "std" }},
	}
}

// P10.1: CheckJob, and the other functions with a job, which return its error first.
func TestCheckJob(t *testing.T) {
	for name, call := range withJob() {
		_, e := call(theJob())
		wantError(t, name, e, api.OK)
		_, e = call(smallJob())
		wantError(t, name+" of the small job", e, api.OK)
		for i, first := range jobFaults() {
			for _, second := range jobFaults()[i:] {
				j := theJob()
				second.spoil(&j)
				first.spoil(&j)
				l, e := call(j)
				wantError(t, name+" with faults", e, first.is)
				if slices.Contains(l, any(false)) {
					t.Errorf("%s returns more than error %d", name, e)
				}
			}
		}
	}
}

// P10.1: names of jobs, and errors of all parts of a job.
func TestCheckJobErrors(t *testing.T) {
	for _, s := range []string{"a", "abcdefghijkl", "a-1", "Z9"} {
		j := smallJob()
		j.Name = s
		wantError(t, "CheckJob of "+s, office.CheckJob(j), api.OK)
	}
	for _, s := range []string{"", "1", "-", "abcdefghijklm", "a b", "a\n", "\xff"} {
		j := smallJob()
		j.Name = s
		wantError(t, "CheckJob of "+s, office.CheckJob(j), api.ErrName)
	}
	for i, c := range []struct {
		is    api.Errno
		spoil func(j *api.Job)
	}{
		{api.ErrName, func(j *api.Job) { j.Building.Name = "" }},
		{api.ErrClash, func(j *api.Job) { j.Building.Boxes[0].X2, j.Building.Boxes[0].Y1 = 1, 1000 }},
		{api.ErrRange, func(j *api.Job) { j.System.Lift = 0 }},
		{api.ErrShape, func(j *api.Job) { j.System.Bays = nil }},
		{api.ErrLarge, func(j *api.Job) { j.Catalogue.Parts = make([]api.Part, 61) }},
		{api.ErrRange, func(j *api.Job) { j.Catalogue.Pairs[2][1] = 21 }},
		{api.ErrName, func(j *api.Job) { j.Terms[0].Part = "." }},
		{api.ErrRange, func(j *api.Job) { j.Terms[0].Least = 521 }},
		{api.ErrLarge, func(j *api.Job) { j.Terms = make([]api.Term, 61) }},
		{api.OK, func(j *api.Job) { j.Terms = nil }},
		{api.OK, func(j *api.Job) { j.System.Lift = 6001 }},                      // there is no deck, but that is no matter
		{api.OK, func(j *api.Job) { j.System.Width, j.System.Gap = 5000, 5000 }}, // nor is a run that meets a box
	} {
		j := theJob()
		c.spoil(&j)
		wantError(t, "CheckJob of fault "+strconv.Itoa(i), office.CheckJob(j), c.is)
	}
	wantError(t, "CheckJob of nothing", office.CheckJob(api.Job{}), api.ErrName)
}

// P10.1: texts of jobs.
func TestJobTexts(t *testing.T) {
	for s, j := range map[string]api.Job{theJobText: theJob(), smallJobText: smallJob()} {
		got, e := office.PrintJob(j)
		want(t, "PrintJob", got, e, s, api.OK)
		back, n, e := office.ParseJob(s)
		want(t, "ParseJob", back, e, j, api.OK)
		want(t, "the number of no line", n, e, 0, api.OK)
	}
	// The drawing may be written in other ways, the rest may not.
	s := strings.Replace(theJobText, "building hut\n", "# a comment\n\n  building\t\thut # the hut\n system#\n", 1)
	_, n, e := office.ParseJob(s)
	want(t, "ParseJob of a wrong line", n, e, 5, api.ErrSyntax)
	s = strings.Replace(s, " system#\n", "#system\n\t\n", 1)
	back, n, e := office.ParseJob(s)
	want(t, "ParseJob with comments", back, e, theJob(), api.OK)
	want(t, "the number of no line", n, e, 0, api.OK)
}

// P10.1: the size of a text.
func TestJobSizes(t *testing.T) {
	fill := func(size int) string {
		return strings.Replace(theJobText, "hut\n", "hut#"+strings.Repeat("-", size-len(theJobText)-1)+"\n", 1)
	}
	j, n, e := office.ParseJob(fill(60000))
	want(t, "ParseJob of 60000 bytes", j, e, theJob(), api.OK)
	j, n, e = office.ParseJob(fill(60001))
	want(t, "ParseJob of 60001 bytes", j, e, api.Job{}, api.ErrLarge)
	want(t, "the number of no line", n, e, 0, api.ErrLarge)
	j, n, e = office.ParseJob(strings.Repeat("\n", 60001))
	want(t, "ParseJob of 60001 lines", j, e, api.Job{}, api.ErrLarge)
	want(t, "the number of no line", n, e, 0, api.ErrLarge)
}

// P10.1: the numbers of wrong lines.
func TestWrongLines(t *testing.T) {
	lines := strings.SplitAfter(theJobText, "\n")
	lines = lines[:len(lines)-1]
	for _, c := range []struct {
		at    int    // the number of a line
		line  string // what stands there instead of it
		wrong int
	}{
		{1, "", 1}, {1, "\n", 1}, {1, "job\n", 1}, {1, "job \n", 1}, {1, "job  a\n", 1}, {1, " job a\n", 1}, {1, "job a \n", 1},
		{1, "job a b\n", 1}, {1, "Job a\n", 1}, {1, "jobs a\n", 1}, {1, "job-1\n", 1}, {1, "system\n", 1},
		{2, "building\n", 2}, {2, "building a b\n", 2}, {2, "job a\n", 2}, {2, "", 2}, {2, "system\n", 2}, {2, "#\nsystem\n", 3},
		{3, "storey 0 0,0 0;0\n", 3}, {5, "", 5}, {5, "system\n", 5}, {5, "roof 06000\n", 5}, {5, "roof 1234567890\n", 5},
		{7, "opening 1 3 0 4000 0\n", 7}, {8, "box\n", 8}, {8, "part\n", 8}, {8, "job a\n", 8},
		{9, "", 2}, {9, "system \n", 2}, {9, " system\n", 2}, {9, "systems\n", 2}, {9, "system\nsystem\n", 9}, {9, "system\n\n", 9},
		{10, "bay 1000 2500\n", 9}, {10, "bays\n", 9}, {10, "bays 2500 1000\n", 9}, {11, "boards  500\n", 9}, {11, "", 9}, {12, "width 0\n", 9},
		{13, "gap 300 \n", 9}, {14, "lift +1\n", 9}, {14, "", 9}, {14, "lift 2000\nlift 2000\n", 15},
		{15, "part  std 0 4000000 9000 20000 1 2\n", 15}, {15, "part std 0 4000000 9000 20000 1\n", 15},
		{15, "part std 0 4000000 9000 20000 1 2 3\n", 15}, {15, "part std 0 4000000 9000 20000 1 2 \n", 15},
		{15, "part 0 4000000 9000 20000 1 2\n", 15}, {15, "part  0 4000000 9000 20000 1 2\n", 15},
		{15, "part std 00 4000000 9000 20000 1 2\n", 15}, {15, "part std -0 4000000 9000 20000 1 2\n", 15},
		{15, "part std +1 4000000 9000 20000 1 2\n", 15}, {15, "part std 0 1234567890123456 9000 20000 1 2\n", 15},
		{15, "part std 0 -1234567890123456 9000 20000 1 2\n", 15}, {15, "part std a 1 1 1 1 2\n", 15}, {15, "part std 0 1 1 1 1 2.0\n", 15},
		{15, "\n", 15}, {15, "#\n", 15}, {15, "parts std 0 4000000 9000 20000 1 2\n", 15}, {15, "box 1 1 1 2 2 2\n", 15}, {15, "system\n", 15},
		{20, "pair 1 2\npart a 0 1 1 1 1 1\n", 21}, {20, "term a 1 1 1\n", 21}, {20, "end\n", 21},
		{21, "pair 1\n", 21}, {21, "pair 1 2 3\n", 21}, {21, "pair 1 x\n", 21}, {21, "pair 1  2\n", 21}, {21, "pair 1\t2\n", 21},
		{22, "part a 0 1 1 1 1 1\n", 22}, {22, "term a 1 1 1\n", 23}, {22, "end\n", 23},
		{24, "term std 100 2\n", 24}, {24, "term std 100 2 5000 0\n", 24}, {24, "term  100 2 5000\n", 24}, {24, "term std 1 1 a\n", 24},
		{25, "pair 1 2\n", 25}, {25, "part a 0 1 1 1 1 1\n", 25}, {25, "end\n", 26},
		{26, "", 26}, {26, "end", 26}, {26, "end \n", 26}, {26, " end\n", 26}, {26, "end 1\n", 26}, {26, "ending\n", 26}, {26, "End\n", 26},
		{26, "end\n\n", 27}, {26, "end\nend\n", 27}, {26, "end\nx", 27}, {26, "end\n ", 27}, {26, "end\nterm a 1 1 1\n", 27},
	} {
		l := slices.Clone(lines)
		l[c.at-1] = c.line
		j, n, e := office.ParseJob(strings.Join(l, ""))
		want(t, "ParseJob with "+strconv.Quote(c.line), n, e, c.wrong, api.ErrSyntax)
		want(t, "the job of a wrong text", j, e, api.Job{}, api.ErrSyntax)
	}
}

// P10.1: texts that end too early.
func TestCutJobs(t *testing.T) {
	lines := strings.SplitAfter(theJobText, "\n")
	for count := range 26 {
		s := strings.Join(lines[:count], "")
		whole, cut := count+1, count // the lines that are wrong if the last one has its line feed, or not
		switch {
		case 1 <= count && count <= 8:
			whole, cut = 2, min(2, count) // there is no line "system"
		case count == 9:
			whole, cut = 9, 2
		case 10 <= count && count <= 14:
			whole, cut = 9, 9
		}
		if count == 14 {
			whole = 15
		}
		_, n, e := office.ParseJob(s)
		want(t, "ParseJob of "+strconv.Itoa(count)+" lines", n, e, whole, api.ErrSyntax)
		if count > 0 {
			_, n, e = office.ParseJob(s[:len(s)-1])
			want(t, "ParseJob without the line feed of line "+strconv.Itoa(count), n, e, cut, api.ErrSyntax)
		}
	}
	lines = strings.SplitAfter(smallJobText, "\n")
	for count, wrong := range []int{1, 2, 2, 2, 2, 5, 5, 5, 5, 5, 11} {
		_, n, e := office.ParseJob(strings.Join(lines[:count], ""))
		want(t, "ParseJob of "+strconv.Itoa(count)+" lines of the small job", n, e, wrong, api.ErrSyntax)
	}
	for s, wrong := range map[string]int{
		"job a\nsystem\n": 2, "job \nsystem\n": 1, "job a\n\n#\nsystem\n": 4, "job a\nbuilding a\nsystem\n": 3, "job a\nbuilding a\nroof 1\nsystem\n": 3,
		"job a\nbuilding a\nsystem": 2, "job a\nsystem\nsystem\n": 2,
	} {
		_, n, e := office.ParseJob(s)
		want(t, "ParseJob of "+strconv.Quote(s), n, e, wrong, api.ErrSyntax)
	}
}

// P10.1: of a text with all its lines in their forms, the error of CheckJob.
func TestWrongJobs(t *testing.T) {
	l := []struct {
		from, to string
		is       api.Errno
	}{
		{"job job-1\n", "job 1\n", api.ErrName},
		{"roof 6000\n", "roof 3000\n", api.ErrRange},
		{"part tie 8 0", "part tie 8 1", api.ErrForm},
		{"term board", "term std", api.ErrExists},
	}
	for i, first := range l {
		for _, second := range l[i:] {
			s := strings.Replace(theJobText, first.from, first.to, 1)
			s = strings.Replace(s, second.from, second.to, 1)
			j, n, e := office.ParseJob(s)
			want(t, "ParseJob of a wrong job", j, e, api.Job{}, first.is)
			want(t, "the number of no line", n, e, 0, first.is)
			_, n, e = office.ParseJob(s + "\n")
			want(t, "ParseJob of a wrong text of it", n, e, 27, api.ErrSyntax)
		}
	}
	for _, c := range []struct {
		from, to string
		is       api.Errno
	}{
		{"job job-1", "job \t#\xff", api.ErrName},
		{"job job-1", "job system", api.OK},
		{"building hut", "building system", api.OK},
		{"building hut", "building 0", api.ErrName},
		{"4000,2000 ", "4000,2000 4000,2000 ", api.ErrForm},
		{"opening 0 0", "opening 2 0", api.ErrMissing},
		{"box -2000", "box -999999999", api.ErrRange},
		{"part std 0", "part 0 0", api.ErrName},
		{"part std-b", "part std", api.ErrExists},
		{"part std 0 4000000", "part std 0 123456789012345", api.ErrRange},
		{"part std 0 4000000", "part std 0 -123456789012345", api.ErrRange},
		{"part std 0 4000000", "part std 0 20000000000000", api.OK},
		{"pair 3 1", "pair 3 -1", api.ErrRange},
		{"pair 3 1\n", strings.Repeat("pair 3 1\n", 199), api.ErrLarge},
		{"term board 30", "term board 1000001", api.ErrRange},
		{"term board 30 0", "term board 0 520", api.OK},
	} {
		_, n, e := office.ParseJob(strings.Replace(theJobText, c.from, c.to, 1))
		want(t, "ParseJob with "+strconv.Quote(c.to), n, e, 0, c.is)
	}
}

// jobOf is what ParseJob returns, by the chapter, with expressions for the lines behind the system.
func jobOf(s string) (wrong int, e api.Errno) {
	if len(s) > api.MaxText {
		return 0, api.ErrLarge
	}
	lines := strings.SplitAfter(s, "\n")
	if lines[len(lines)-1] == "" {
		lines = lines[:len(lines)-1]
	}
	if len(lines) == 0 || !regexp.MustCompile(`\Ajob [^ \n]+\n\z`).MatchString(lines[0]) {
		return 1, api.ErrSyntax
	}
	at := slices.Index(lines, "system\n")
	if at < 0 {
		return 2, api.ErrSyntax
	}
	b, n, ofBuilding := building.Parse(strings.Join(lines[1:at], ""))
	if ofBuilding == api.ErrSyntax {
		return n + 1, api.ErrSyntax
	}
	if len(lines) < at+6 {
		return at + 1, api.ErrSyntax
	}
	if _, e := layout.ParseSystem(strings.Join(lines[at+1:at+6], "")); e != api.OK {
		return at + 1, api.ErrSyntax
	}
	var j api.Job
	j.Name, j.Building = lines[0][4:len(lines[0])-1], b
	if wrong := listsOf(&j, lines[at+6:]); wrong > 0 {
		return at + 6 + wrong, api.ErrSyntax
	}
	wantName := regexp.MustCompile(`\A[A-Za-z][A-Za-z0-9-]{0,11}\z`)
	switch {
	case !wantName.MatchString(j.Name):
		return 0, api.ErrName
	case ofBuilding != api.OK:
		return 0, ofBuilding
	case parts.CheckCatalogue(j.Catalogue) != api.OK:
		return 0, parts.CheckCatalogue(j.Catalogue)
	}
	return 0, record.CheckTerms(j.Terms)
}

// listsOf reads the lines behind the system; it returns the number of the first wrong one, or 0.
func listsOf(j *api.Job, lines []string) int {
	n := ` (0|-?[1-9][0-9]{0,14})`
	part := regexp.MustCompile(`\Apart ([^ \n]+)` + strings.Repeat(n, 6) + `\n\z`)
	pair := regexp.MustCompile(`\Apair` + n + n + `\n\z`)
	term := regexp.MustCompile(`\Aterm ([^ \n]+)` + n + n + n + `\n\z`)
	i := 0
	for ; i < len(lines) && part.MatchString(lines[i]); i++ {
		w := part.FindStringSubmatch(lines[i])
		x := numbersOf(w[2:]...)
		j.Catalogue.Parts = append(j.Catalogue.Parts, api.Part{Name: w[1], Kind: x[0], Square: x[1], Mass: x[2], Strength: x[3], Ends: [2]int{x[4], x[5]}})
	}
	for ; i < len(lines) && pair.MatchString(lines[i]); i++ {
		j.Catalogue.Pairs = append(j.Catalogue.Pairs, [2]int(numbersOf(pair.FindStringSubmatch(lines[i])[1:]...)))
	}
	for ; i < len(lines) && term.MatchString(lines[i]); i++ {
		w := term.FindStringSubmatch(lines[i])
		x := numbersOf(w[2:]...)
		j.Terms = append(j.Terms, api.Term{Part: w[1], Week: x[0], Least: x[1], Price: x[2]})
	}
	if i == len(lines) || lines[i] != "end\n" || len(lines) > i+1 {
		if i < len(lines) && lines[i] == "end\n" {
			i++
		}
		return i + 1
	}
	return 0
}

// P10.1: texts with small faults.
func TestSpoiledJobs(t *testing.T) {
	d := dice()
	results := map[api.Errno]int{}
	for range 10000 {
		s := theJobText
		for range 1 + d.Intn(2) {
			s = spoiled(d, s, " \n#0129-,.ax\t")
		}
		if d.Intn(3) == 0 {
			s = shuffled(d, s)
		}
		right, f := jobOf(s)
		_, n, e := office.ParseJob(s)
		want(t, "ParseJob of "+strconv.Quote(s), n, e, right, f)
		results[f]++
	}
	for _, e := range []api.Errno{api.OK, api.ErrSyntax, api.ErrRange, api.ErrForm, api.ErrExists} {
		if results[e] < 10 {
			t.Errorf("only %d texts have error %d", results[e], e)
		}
	}
}

// shuffled is a text with a line moved, lost or doubled.
func shuffled(d *rand.Rand, s string) string {
	lines := strings.SplitAfter(s, "\n")
	i, k := d.Intn(len(lines)), d.Intn(len(lines))
	switch d.Intn(3) {
	case 0:
		lines[i], lines[k] = lines[k], lines[i]
	case 1:
		lines = slices.Delete(lines, i, i+1)
	case 2:
		lines = slices.Insert(lines, k, lines[i])
	}
	return strings.Join(lines, "")
}

// someJob is a job of chances.
func someJob(d *rand.Rand) api.Job {
	j := theJob()
	j.Name = []string{"a", "job", "system", "A-9"}[d.Intn(4)]
	j.System = api.System{Bays: []int{1 + d.Intn(100), 200 + d.Intn(100)}[d.Intn(2):], Width: 1 + d.Intn(5000), Gap: d.Intn(5001), Lift: 1 + d.Intn(10000)}
	if d.Intn(2) == 0 {
		j.System.Boards = []int{1 + d.Intn(10000)}
	}
	j.Building.Openings = j.Building.Openings[d.Intn(3):]
	j.Building.Boxes = j.Building.Boxes[d.Intn(2):]
	j.Catalogue, j.Terms = api.Catalogue{}, nil
	for i := range d.Intn(5) {
		p := api.Part{Name: "p" + strconv.Itoa(i), Kind: d.Intn(10), Square: 1 + d.Intn(api.MaxSquare), Mass: d.Intn(1000001), Strength: d.Intn(1000001), Ends: [2]int{d.Intn(21), d.Intn(21)}}
		if p.Kind > 7 {
			p.Square = 0
		}
		j.Catalogue.Parts = append(j.Catalogue.Parts, p)
	}
	for range d.Intn(4) {
		j.Catalogue.Pairs = append(j.Catalogue.Pairs, [2]int{d.Intn(21), d.Intn(21)})
	}
	for i := range d.Intn(4) {
		j.Terms = append(j.Terms, api.Term{Part: "p" + strconv.Itoa(i), Week: d.Intn(1000001), Least: d.Intn(521), Price: d.Intn(1000001)})
	}
	return j
}

// P10.1 and P10.9: ParseJob undoes PrintJob.
func TestJobsThereAndBack(t *testing.T) {
	d := dice()
	for range 300 {
		j := someJob(d)
		s, e := office.PrintJob(j)
		wantError(t, "PrintJob", e, api.OK)
		back, n, e := office.ParseJob(s)
		want(t, "ParseJob of "+s, back, e, j, api.OK)
		want(t, "the number of no line", n, e, 0, api.OK)
	}
}
