package sub

import (
	"slices"
	"strconv"

	"cupel/alias"
	"cupel/api"
	"cupel/types"
)

// book gives each type a number; equal types have the same one. So what was found out of two types is known wherever they stand, and of types that stand for themselves there are no more numbers than parts.
type book struct {
	env     *alias.Env
	numbers map[string]int // by what the type is made of
	pages   []page         // by number
}

// page is what is known of a type.
type page struct {
	kind   int
	name   string
	names  []string
	parts  []int
	fields map[string]int // a record's parts by their names
	heads  []int          // none, as long as nobody asked
}

func newBook(e *alias.Env) *book {
	return &book{env: e, numbers: map[string]int{}}
}

// of is the number of a type. It is made normal, as heads are.
func (b *book) of(t api.T) int { return b.ofNormal(types.Norm(t)) }

func (b *book) ofAll(l []api.T) []int {
	var all []int
	for _, t := range l {
		all = append(all, b.of(t))
	}
	return all
}

func (b *book) ofNormal(t api.T) int {
	made := page{kind: t.Kind, name: t.Name, names: t.Names}
	for _, part := range t.L {
		made.parts = append(made.parts, b.ofNormal(part))
	}
	key := made.key()
	n, there := b.numbers[key]
	if !there {
		n = len(b.pages)
		made.fields = made.byName()
		b.numbers[key] = n
		b.pages = append(b.pages, made)
	}
	return n
}

// key tells what the type is made of: quoted names are never taken for numbers, nor for one another.
func (p page) key() string {
	key := strconv.AppendInt(nil, int64(p.kind), 10)
	key = strconv.AppendQuote(key, p.name)
	for _, name := range p.names {
		key = strconv.AppendQuote(key, name)
	}
	for _, part := range p.parts {
		key = append(key, ' ')
		key = strconv.AppendInt(key, int64(part), 10)
	}
	return string(key)
}

func (p page) byName() map[string]int {
	if p.kind != api.KRec {
		return nil
	}
	fields := map[string]int{}
	for i, name := range p.names[:min(len(p.names), len(p.parts))] {
		fields[name] = p.parts[i]
	}
	return fields
}

func (b *book) isDyn(n int) bool { return b.pages[n].kind == api.KDyn }

// heads are the numbers of a type's heads.
func (b *book) heads(n int) []int {
	if b.pages[n].heads == nil {
		heads := b.gather(n)
		b.pages[n].heads = heads
	}
	return b.pages[n].heads
}

// gather asks the definitions of references alone: of a type that nests deep all of it would be copied anew at each level.
func (b *book) gather(n int) []int {
	switch one := b.pages[n]; one.kind {
	case api.KRef:
		var heads []int
		for _, head := range b.env.Heads(api.T{Kind: api.KRef, Name: one.name}) {
			heads = append(heads, b.ofNormal(head))
		}
		return heads
	case api.KUnion:
		return b.gatherAll(one.parts)
	}
	return []int{n}
}

func (b *book) gatherAll(parts []int) []int {
	var all []int
	for _, part := range parts {
		all = append(all, b.heads(part)...)
	}
	if i := slices.IndexFunc(all, b.isDyn); i >= 0 {
		return []int{all[i]}
	}
	slices.Sort(all)
	return slices.Compact(all)
}
