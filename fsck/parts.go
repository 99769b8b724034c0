package fsck

import (
	"slices"

	"annex/api"
	"annex/msg"
)

// parts are the parts of Check, in the order of their lines.
func (p *picture) parts() []func(tell) {
	return []func(tell){p.judgeBoot, p.judgeRecords, p.judgeBlocks, p.judgeTree, p.judgeQuota, p.judgeLedger}
}

func (p *picture) judgeBoot(say tell) {
	if p.noBoot {
		say("boot")
	}
}

func (p *picture) judgeRecords(say tell) {
	for n, s := range p.table {
		switch {
		case s.bent:
			say("record", decimal(n))
		case s.used && s.node.Change >= p.next:
			say("change", decimal(s.node.Id))
		}
	}
	if root, ok := p.table.find(api.Root); !ok || !p.table[root].isDir() {
		say("root")
	}
}

func (p *picture) judgeBlocks(say tell) {
	told := make([]int, len(p.bitmap)) // how often, by data blocks
	for n, s := range p.table.inUse() {
		h := p.holdings[n]
		switch {
		case h.bent:
			say("bent", decimal(s.node.Id))
		case h.long:
			say("long", decimal(s.node.Id))
		}
		for _, b := range h.list {
			told[b-p.layout.Data]++
		}
	}
	for i, many := range told {
		if word := wordOfBlock(many, p.bitmap[i]); word != "" {
			say(word, decimal(p.layout.Data+i))
		}
	}
}

func wordOfBlock(many int, used bool) string {
	switch {
	case many > 1:
		return "shared"
	case many == 1 && !used:
		return "free"
	case many == 0 && used:
		return "lost"
	}
	return ""
}

func (p *picture) judgeTree(say tell) {
	for _, s := range p.table.inUse() {
		if s.noList {
			say("list", decimal(s.node.Id))
		}
		for _, e := range s.entries {
			if _, ok := p.table.find(e.Id); !ok {
				say("dangling", decimal(s.node.Id), plain(e.Name))
			}
		}
	}
	leading, reached := p.table.leading(), p.table.reached()
	for n, s := range p.table.inUse() {
		if word := wordOfPlace(s.node.Id, leading[n], reached[n]); word != "" {
			say(word, decimal(s.node.Id))
		}
	}
}

// wordOfPlace is for an id that so many entries lead to.
func wordOfPlace(id, leading int, reached bool) string {
	wanted := 1
	if id == api.Root {
		wanted = 0
	}
	switch {
	case leading < wanted:
		return "orphan"
	case leading > wanted:
		return "twice"
	case !reached:
		return "apart"
	}
	return ""
}

// leading tells by slots how many entries lead there.
func (t table) leading() []int {
	many := make([]int, len(t))
	for _, s := range t {
		for _, e := range s.entries {
			if n, ok := t.find(e.Id); ok {
				many[n]++
			}
		}
	}
	return many
}

// reached tells by slots whether entries lead there from the root on.
func (t table) reached() []bool {
	seen := make([]bool, len(t))
	var visit func(id int)
	visit = func(id int) {
		n, ok := t.find(id)
		if !ok || seen[n] {
			return
		}
		seen[n] = true
		for _, e := range t[n].entries {
			visit(e.Id)
		}
	}
	visit(api.Root)
	return seen
}

func (p *picture) judgeQuota(say tell) {
	size := 0
	for _, s := range p.table {
		if s.isFile() {
			size += s.node.Size
		}
	}
	if size > p.layout.Shape.Quota {
		say("quota", decimal(size))
	}
}

func (p *picture) judgeLedger(say tell) {
	for c, m := range p.marks {
		if m.bent {
			say("mark", decimal(c))
		}
	}
	if p.noLedger {
		say("ledger")
	}
	for i, k := range p.kept {
		for _, word := range p.wordsOfReply(i) {
			say(word, decimal(k.Client), decimal(k.Seq))
		}
	}
}

// wordsOfReply is all that is amiss with the i-th kept reply.
func (p *picture) wordsOfReply(i int) []string {
	k := p.kept[i]
	var words []string
	if slices.ContainsFunc(p.kept[:i], func(o api.Kept) bool { return o.Client == k.Client && o.Seq == k.Seq }) {
		words = append(words, "double")
	}
	if word := p.wordOfDatagram(k); word != "" {
		words = append(words, word)
	}
	if m := p.marks[k.Client]; !m.bent && k.Seq > m.seq+p.layout.Shape.Window {
		words = append(words, "ahead")
	}
	if k.Stamp >= p.next || p.shares(i) {
		words = append(words, "stamp")
	}
	return words
}

func (p *picture) wordOfDatagram(k api.Kept) string {
	r, code := msg.DecodeReply(k.Data)
	switch {
	case code != api.OK || r.Client != k.Client || r.Seq != k.Seq:
		return "kept"
	case r.Epoch > p.epoch:
		return "era"
	}
	return ""
}

// shares tells whether another kept reply has the stamp of the i-th one.
func (p *picture) shares(i int) bool {
	same := func(o api.Kept) bool { return o.Stamp == p.kept[i].Stamp }
	return slices.ContainsFunc(p.kept[:i], same) || slices.ContainsFunc(p.kept[i+1:], same)
}
