package script

import (
	"slices"
	"strconv"

	"abugida/api"
	"abugida/lines"
	"abugida/parts"
	"abugida/patch"
	"abugida/relay"
)

const (
	screen  = 0 // the node of the display
	server  = 1
	maxRuns = 100
)

func (p *player) net(a *arguments) {
	var l []api.Trouble
	for a.more() {
		l = append(l, a.trouble())
	}
	p.lines, p.time = lines.New(nodes, l), 0
	p.report(api.OK)
}

// requireRelay leaves the line, if a number is not that of a relay.
func requireRelay(n int) { require(n > server && n < nodes, api.ErrNone) }

func (p *player) relay(a *arguments) {
	n, bytes := a.number(), a.number()
	a.end()
	requireRelay(n)
	r := relay.New(n, bytes)
	need(r != nil)
	p.relays[n] = r
	p.report(api.OK)
}

// plain returns the plain patches of some parts of a font.
func plain(f api.Font, keys []api.Key) []api.Patch {
	var l []api.Patch
	for _, k := range keys {
		if one, e := patch.Make(f, k, api.Key{}); e == api.OK {
			l = append(l, one)
		}
	}
	return l
}

func (p *player) load(a *arguments) {
	n, slot := a.number(), a.number()
	a.end()
	requireRelay(n)
	f := p.font(slot)
	r := p.relays[n]
	need(r != nil)
	for _, one := range plain(f, parts.Keys(f)) {
		r.Keep(one)
	}
	p.printLine("kept", r.Many())
}

func (p *player) serve(a *arguments) {
	slot := a.number()
	a.end()
	p.font(slot)
	p.served[slot] = true
	p.report(api.OK)
}

func (p *player) want(a *arguments) {
	n := a.number()
	a.end()
	require(n > screen && n < nodes, api.ErrNone)
	need(p.display != nil)
	wanted := make([][]api.Key, len(p.doc.Fonts))
	many := 0
	for _, o := range p.display.Wants() {
		if o.Key != (api.Key{}) {
			wanted[o.Font] = append(wanted[o.Font], o.Key)
			many++
		}
	}
	for k, keys := range wanted {
		if len(keys) > 0 {
			text := relay.Ask(p.doc.Fonts[k].Name, p.doc.Fonts[k].Version, keys)
			p.lines.Send(p.time, api.Message{From: screen, To: n, Text: text})
		}
	}
	p.printLine("asked", many)
}

// takeAll lets the display take the patches of a message.
func (p *player) takeAll(m api.Message) {
	l, ok := relay.Tell(m.Text)
	if !ok || p.display == nil {
		l = nil
	}
	taken := 0
	for _, one := range l {
		if p.display.Take(one) == api.OK {
			taken++
		}
	}
	p.printLine(with("0 took", taken) + " " + with("of", len(l)))
}

// servedFont returns the first font that is served under a name and a version.
func (p *player) servedFont(name string, version int) (api.Font, bool) {
	for slot, f := range p.fonts {
		if p.served[slot] && f.Core.Name == name && f.Core.Version == version {
			return *f, true
		}
	}
	return api.Font{}, false
}

// answer lets the server answer a message.
func (p *player) answer(m api.Message) {
	name, version, keys, ok := relay.Asked(m.Text)
	f, serves := p.servedFont(name, version)
	if !ok || !serves {
		p.printLine("1 told", 0)
		return
	}
	own := parts.Keys(f)
	known := slices.DeleteFunc(keys, func(k api.Key) bool { return !slices.Contains(own, k) })
	l := plain(f, known)
	p.lines.Send(p.time, api.Message{From: server, To: m.From, Text: relay.Told(l)})
	p.printLine("1 told", len(l))
}

// passOn lets a relay take a message.
func (p *player) passOn(m api.Message) {
	r := p.relays[m.To]
	for _, answer := range r.Take(m) {
		p.lines.Send(p.time, answer)
	}
	p.printLine(strconv.Itoa(m.To)+" kept", r.Many())
}

func (p *player) run(a *arguments) {
	n := a.number()
	a.end()
	for range max(0, min(n, maxRuns)) {
		m, time, ok := p.lines.Next()
		if !ok {
			p.printLine("none")
			return
		}
		p.time = max(p.time, time)
		switch m.To {
		case screen:
			p.takeAll(m)
		case server:
			p.answer(m)
		default:
			p.passOn(m)
		}
	}
}
