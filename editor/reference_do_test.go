package editor_test

import (
	"strings"

	"bodkin/api"
	"bodkin/change"
	"bodkin/cluster"
	"bodkin/move"
	"bodkin/store"
	"bodkin/unit"
)

// This file carries commands out by the chapter's words. Where motions lead and what changes make is asked of layers 16 and 17, whose own tests hold those.

// plain is what an editor is seen to be. One that keeps none stands for nil.
type plain struct {
	plainBuffer
	plainRing
	plainHistory
	prompt       string
	goal, yanked int
	searching    bool
	part         string
	// hit is the number of the entry and the offset, or none.
	hit       []int
	keepsNone bool
}

func newPlain(c api.Config) *plain {
	return &plain{
		plainBuffer:  newPlainBuffer(c),
		plainRing:    plainRing{bound: held(c.Kill, 1000), state: "idle"},
		plainHistory: plainHistory{bound: held(c.History, 1000), drafts: map[int]string{}},
		prompt:       c.Prompt,
		goal:         -1,
	}
}

// noPlain answers what nil is.
func noPlain() *plain {
	p := newPlain(api.Config{})
	p.goal, p.keepsNone = 0, true
	return p
}

// answer is what Do answers.
type answer struct {
	line     string
	accepted bool
	err      api.Errno
}

func refused(e api.Errno) answer { return answer{err: e} }

// counted answers the count of c.
func counted(c api.Command) int {
	if c.Count < 1 {
		return 1
	}
	if c.Count > 1000 {
		return 1000
	}
	return c.Count
}

func (p *plain) text() string {
	if p.searching && p.hit != nil {
		return p.entries[p.hit[0]]
	}
	return p.now.text
}

func (p *plain) cursor() int {
	if p.searching && p.hit != nil {
		return cluster.Snap(p.entries[p.hit[0]], p.hit[1])
	}
	return p.now.cursor
}

func (p *plain) marks() []api.Mark {
	if p.searching && p.hit != nil {
		return nil
	}
	return p.now.list()
}

func (p *plain) promptNow() string {
	if p.searching {
		return "(search \"" + p.part + "\"): "
	}
	return p.prompt
}

func (p *plain) switchStore(to api.Kind) api.Errno {
	if p.keepsNone {
		return 0
	}
	return p.switchTo(to)
}

// do carries c out. A kind that keeps the run, the ring's state or the goal says so; of all others each is ended.
func (p *plain) do(c api.Command) answer {
	if p.keepsNone {
		return answer{}
	}
	var a answer
	keeps, within := "", false
	if p.searching {
		a, within = p.within(c)
		if !within {
			p.keepHit()
		}
	}
	if !within {
		a, keeps = p.carry(c)
	}
	if keeps != "run" || a.err != 0 {
		p.run = 0
	}
	if keeps != "ring" || a.err != 0 {
		p.state = "idle"
	}
	if keeps != "goal" || a.err != 0 {
		p.goal = -1
	}
	return a
}

// carry is P23.2.
func (p *plain) carry(c api.Command) (a answer, keeps string) {
	switch c.Kind {
	case 0, 38:
		return answer{}, ""
	case 1:
		one := counted(c) == 1 && unit.Count(c.Text) == 1
		a = p.insert(c.Text, counted(c), one)
		if one {
			keeps = "run"
		}
		return a, keeps
	case 2:
		return p.insert("\x0a", counted(c), false), ""
	case 39:
		return p.insert(c.Text, 1, false), ""
	case 3:
		a = answer{line: p.now.text, accepted: true}
		p.add(p.now.text)
		p.reset("")
		return a, ""
	case 4, 5, 6, 7, 8, 9, 10, 11, 12, 13:
		return p.motion(c), "goal"
	case 14, 15, 24, 25, 26, 27, 28:
		return p.change(c), ""
	case 16, 17, 18, 19, 20:
		return p.change(c), "ring"
	case 21:
		made, e := p.made(c)
		if e == 0 {
			p.lay(made.Kill)
		}
		return refused(e), ""
	case 22:
		return p.yank(), "ring"
	case 23:
		return p.pop(), "ring"
	case 36:
		p.searching, p.part, p.hit = true, "", nil
		return answer{}, ""
	case 37:
		return refused(12), ""
	case 40:
		return refused(11), ""
	}
	return p.carryMore(c), ""
}

// carryMore is the rest of P23.2: marks, undo and redo, the history, and what is no kind.
func (p *plain) carryMore(c api.Command) answer {
	switch c.Kind {
	case 29:
		if c.Mark != '@' && (c.Mark < 'a' || c.Mark > 'z') {
			return refused(7)
		}
		p.now = p.now.with(c.Mark, p.now.cursor)
		return answer{}
	case 30, 31:
		name := c.Mark
		if c.Kind == 31 {
			name = '@'
		}
		at, ok := p.now.marks[name]
		if !ok {
			return refused(7)
		}
		if c.Kind == 31 {
			p.now = p.now.with('@', p.now.cursor)
		}
		p.now.cursor = at
		return answer{}
	case 32:
		return times(counted(c), p.undo)
	case 33:
		return times(counted(c), p.redo)
	case 34:
		return p.walk(-1, counted(c))
	case 35:
		return p.walk(1, counted(c))
	}
	return refused(13)
}

// times is a command that is done count times, or as often as it can be.
func times(count int, do func() api.Errno) answer {
	first := do()
	for done := 1; done < count && first == 0; done++ {
		if do() != 0 {
			break
		}
	}
	return refused(first)
}

func (p *plain) insert(text string, count int, run bool) answer {
	if len(text)*count > 1073741824 || len(text)*count > p.limit {
		return refused(2)
	}
	all := strings.Repeat(text, count)
	return refused(p.replace(p.now.cursor, 0, all, p.now.cursor+len(all), run))
}

func (p *plain) motion(c api.Command) answer {
	s, _ := store.New(api.KindGap, 0, 1, len(p.now.text), p.now.text)
	to, next, e := move.Go(s, c.Kind, p.now.cursor, p.goal, counted(c))
	if e == 0 {
		p.now.cursor, p.goal = to, next
	}
	return refused(e)
}

// made is layer 17's Of.
func (p *plain) made(c api.Command) (change.Change, api.Errno) {
	region, ok := p.now.marks['@']
	if !ok {
		region = -1
	}
	return change.Of(c, p.now.text, p.now.cursor, region)
}

func (p *plain) change(c api.Command) answer {
	made, e := p.made(c)
	if e == 0 {
		e = p.replace(made.Edit.At, made.Edit.Cut, made.Edit.Put, made.Cursor, false)
	}
	if e == 0 && made.Kill != "" {
		p.kill(made.Kill, made.Ahead)
	}
	return refused(e)
}

func (p *plain) yank() answer {
	if len(p.kills) == 0 {
		return refused(5)
	}
	p.yanked, p.state, p.turn = p.now.cursor, "yanking", 0
	text := p.list()[0]
	return refused(p.replace(p.yanked, 0, text, p.yanked+len(text), false))
}

func (p *plain) pop() answer {
	if p.state != "yanking" {
		return refused(6)
	}
	old := p.list()[p.turn]
	p.turn = (p.turn + 1) % len(p.kills)
	text := p.list()[p.turn]
	return refused(p.replace(p.yanked, len(old), text, p.yanked+len(text), false))
}

// walk takes steps of 1 or -1 through the history.
func (p *plain) walk(by, count int) answer {
	text, done := p.now.text, 0
	for done < count && p.place+by >= 0 && p.place+by <= len(p.entries) {
		text = p.leave(p.place+by, text)
		done++
	}
	if done == 0 {
		return refused(9)
	}
	p.reset(text)
	return answer{}
}

// within is P23.3, of all kinds that don't keep the search; of those it answers false.
func (p *plain) within(c api.Command) (answer, bool) {
	switch c.Kind {
	case 0, 38:
		return answer{}, true
	case 1:
		return p.grow(c.Text, counted(c)), true
	case 39:
		return p.grow(c.Text, 1), true
	case 15:
		return p.shrink(), true
	case 36:
		if p.part == "" {
			return refused(10), true
		}
		return p.seek(p.part, p.hit[0]), true
	case 37:
		p.searching = false
		return answer{}, true
	}
	return answer{}, false
}

// seek makes part the part, if it is found.
func (p *plain) seek(part string, below int) answer {
	number, offset, ok := p.find(part, below)
	if !ok {
		return refused(10)
	}
	p.part, p.hit = part, []int{number, offset}
	return answer{}
}

func (p *plain) grow(text string, count int) answer {
	if len(text)*count > 1073741824 {
		return refused(2)
	}
	if len(text)*count > 1<<20 {
		// No text of these tests is as long.
		return refused(10)
	}
	part := p.part + strings.Repeat(text, count)
	switch {
	case part == "":
		return answer{}
	case p.hit == nil:
		return p.seek(part, len(p.entries))
	}
	return p.seek(part, p.hit[0]+1)
}

func (p *plain) shrink() answer {
	list := cluster.List(p.part)
	if len(list) == 0 {
		return refused(8)
	}
	p.part = p.part[:list[len(list)-1].At]
	if p.part == "" {
		p.hit = nil
		return answer{}
	}
	return p.seek(p.part, len(p.entries))
}

// keepHit ends the search.
func (p *plain) keepHit() {
	p.searching = false
	if p.hit == nil {
		return
	}
	entry := p.entries[p.hit[0]]
	p.leave(p.hit[0], p.now.text)
	p.reset(entry)
	p.now.cursor = cluster.Snap(entry, p.hit[1])
}
