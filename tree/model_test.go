package tree_test

import (
	"bytes"
	"maps"
	"slices"
	"strings"

	"annex/api"
)

// node is a file or a directory in memory.
type node struct {
	id, kind, change int
	data             []byte
	entries          map[string]*node
}

// model is the tree in memory that P12.8 speaks of.
type model struct {
	quota int
	uses  []int // of each slot
	nodes map[int]*node
}

func newModel(slots, quota int) *model {
	m := &model{quota: quota, uses: make([]int, slots), nodes: map[int]*node{}}
	m.add(2, 1)
	return m
}

// add takes the lowest slot that is free; nil: there is none. (No story uses a slot up.)
func (m *model) add(kind, seq int) *node {
	for s := range m.uses {
		if m.nodes[m.uses[s]<<8|s] == nil {
			m.uses[s]++
			n := &node{id: m.uses[s]<<8 | s, kind: kind, change: seq, entries: map[string]*node{}}
			m.nodes[n.id] = n
			return n
		}
	}
	return nil
}

func (m *model) clone() *model {
	c := &model{m.quota, slices.Clone(m.uses), map[int]*node{}}
	for id, n := range m.nodes {
		c.nodes[id] = &node{n.id, n.kind, n.change, n.data, map[string]*node{}}
	}
	for id, n := range m.nodes {
		for name, k := range n.entries {
			c.nodes[id].entries[name] = c.nodes[k.id]
		}
	}
	return c
}

// bytes is what all files have together.
func (m *model) bytes() int {
	sum := 0
	for _, n := range m.nodes {
		sum += len(n.data)
	}
	return sum
}

func (n *node) attr() api.Attr {
	return api.Attr{Id: n.id, Kind: n.kind, Size: len(n.data) + 32*len(n.entries), Change: n.change}
}

// holds tells whether a node is this one or lies below it.
func (n *node) holds(o *node) bool {
	if n == o {
		return true
	}
	for _, k := range n.entries {
		if k.holds(o) {
			return true
		}
	}
	return false
}

// names is sorted as bytes.
func (n *node) names() []string {
	return slices.SortedFunc(maps.Keys(n.entries), func(a, b string) int { return bytes.Compare([]byte(a), []byte(b)) })
}

// do is what the tree in memory answers in the transaction of that number.
func (m *model) do(r api.Request, seq int) api.Reply {
	p := api.Reply{Client: r.Client, Seq: r.Seq, Op: r.Op}
	n := m.nodes[r.Id]
	if r.Op == api.Lookup {
		m.walk(strings.Split(r.Path, "/"), &p)
		return p
	}
	if n == nil {
		p.Status = api.ErrStale
		return p
	}
	switch r.Op {
	case api.Getattr:
		p.Attr = n.attr()
	case api.Read, api.Write:
		m.contents(n, r, seq, &p)
	case api.Create, api.Remove, api.Mkdir, api.Rmdir, api.Readdir, api.Rename:
		m.directory(n, r, seq, &p)
	}
	return p
}

func (m *model) walk(parts []string, p *api.Reply) {
	n := m.nodes[256]
	for _, name := range parts {
		if name == "" {
			continue
		}
		if n.kind == 1 {
			p.Status = api.ErrNotDir
			return
		}
		if n = n.entries[name]; n == nil {
			p.Status = api.ErrNoEnt
			return
		}
	}
	p.Attr = n.attr()
}

func (m *model) contents(n *node, r api.Request, seq int, p *api.Reply) {
	end := r.Off + len(r.Data)
	switch {
	case n.kind == 2:
		p.Status = api.ErrIsDir
	case r.Op == api.Read:
		p.Data = n.data[min(r.Off, len(n.data)):min(r.Off+r.Len, len(n.data))]
		p.Attr = n.attr()
	case end > 69632:
		p.Status = api.ErrFBig
	case m.bytes()-len(n.data)+max(end, len(n.data)) > m.quota:
		p.Status = api.ErrQuota
	default:
		row := make([]byte, max(end, len(n.data)))
		copy(row, n.data)
		copy(row[r.Off:], r.Data)
		n.data, n.change = row, seq
		p.Attr = n.attr()
	}
}

func (m *model) directory(n *node, r api.Request, seq int, p *api.Reply) {
	if n.kind == 1 {
		p.Status = api.ErrNotDir
		return
	}
	k := n.entries[r.Name]
	switch r.Op {
	case api.Readdir:
		for _, name := range n.names() {
			if name > r.Name {
				p.List = append(p.List, api.Entry{Name: name, Id: n.entries[name].id, Kind: n.entries[name].kind})
			}
		}
		p.More = len(p.List) > r.Len
		p.List = p.List[:min(len(p.List), r.Len)]
	case api.Rename:
		p.Status = m.rename(n, m.nodes[r.Id2], r, seq)
	case api.Create, api.Mkdir:
		m.make(n, r, seq, p)
	default:
		switch dir := r.Op == api.Rmdir; {
		case k == nil:
			p.Status = api.ErrNoEnt
		case dir && k.kind == 1:
			p.Status = api.ErrNotDir
		case !dir && k.kind == 2:
			p.Status = api.ErrIsDir
		case len(k.entries) > 0:
			p.Status = api.ErrNotEmpty
		default:
			m.away(n, r.Name, seq)
		}
	}
}

func (m *model) make(n *node, r api.Request, seq int, p *api.Reply) {
	if n.entries[r.Name] != nil {
		p.Status = api.ErrExist
		return
	}
	k := m.add(map[int]int{api.Create: 1, api.Mkdir: 2}[r.Op], seq)
	if k == nil {
		p.Status = api.ErrInodes
		return
	}
	n.entries[r.Name], n.change = k, seq
	p.Attr = k.attr()
}

func (m *model) away(n *node, name string, seq int) {
	delete(m.nodes, n.entries[name].id)
	delete(n.entries, name)
	n.change = seq
}

func (m *model) rename(n, to *node, r api.Request, seq int) api.Errno {
	if to == nil {
		return api.ErrStale
	}
	if to.kind == 1 {
		return api.ErrNotDir
	}
	k, gone := n.entries[r.Name], to.entries[r.Name2]
	switch {
	case k == nil:
		return api.ErrNoEnt
	case n == to && r.Name == r.Name2:
		return api.OK
	case k.kind == 2 && k.holds(to):
		return api.ErrInside
	case gone != nil && gone.kind > k.kind:
		return api.ErrIsDir
	case gone != nil && gone.kind < k.kind:
		return api.ErrNotDir
	case gone != nil && len(gone.entries) > 0:
		return api.ErrNotEmpty
	}
	if gone != nil {
		m.away(to, r.Name2, seq)
	}
	delete(n.entries, r.Name)
	to.entries[r.Name2] = k
	n.change, to.change = seq, seq
	return api.OK
}
