package model

import (
	"slices"

	"jigsaw/api"
	"jigsaw/dom"
	"jigsaw/lex"
)

// noPlace is told where no constraint is wrong.
const noPlace = -1

// Check a model: which constraint is wrong.
func Check(m api.Model) (int, api.Errno) {
	if len(m.Names) != len(m.Doms) {
		return noPlace, api.ErrArg
	}
	if len(m.Names) > api.MaxVars || len(m.Cons) > api.MaxCons {
		return noPlace, api.ErrMany
	}
	if e := checkVars(m); e != api.OK {
		return noPlace, e
	}
	for i, c := range m.Cons {
		if e := Right(c, len(m.Names)); e != api.OK {
			return i, e
		}
	}
	if !rightGoal(m) {
		return noPlace, api.ErrGoal
	}
	return noPlace, api.OK
}

// checkVars, one by one: the first error of a name or a domain.
func checkVars(m api.Model) api.Errno {
	met := make(map[string]int, len(m.Names))
	for i, name := range m.Names {
		if !mayName(name) {
			return api.ErrName
		}
		if _, twice := met[name]; twice {
			return api.ErrTwice
		}
		met[name] = i
		if !mayList(m.Doms[i]) {
			return api.ErrRange
		}
	}
	return api.OK
}

// mayName: may a variable have this name? Not if a text's items begin with it.
func mayName(name string) bool {
	switch name {
	case "var", "constraint", "solve":
		return false
	}
	return lex.Name(name)
}

// mayList: is a list a domain's?
func mayList(l []int) bool {
	for i := 1; i < len(l); i++ {
		if l[i-1] >= l[i] {
			return false
		}
	}
	_, e := dom.Of(l)
	return e == api.OK
}

// rightGoal: is the goal one, and of a variable, if it must be?
func rightGoal(m api.Model) bool {
	switch m.Goal {
	case api.Satisfy:
		return m.Obj == 0
	case api.Minimize, api.Maximize:
		return m.Obj >= 0 && m.Obj < len(m.Names)
	}
	return false
}

// Equal: are two models the same?
func Equal(a, b api.Model) bool {
	return a.Goal == b.Goal && a.Obj == b.Obj &&
		slices.Equal(a.Names, b.Names) &&
		equalLists(a.Doms, b.Doms) &&
		slices.EqualFunc(a.Cons, b.Cons, equalCons)
}

// equalCons: are two constraints the same?
func equalCons(a, b api.Con) bool {
	return a.Kind == b.Kind && a.K == b.K &&
		slices.Equal(a.A, b.A) && slices.Equal(a.B, b.B) &&
		slices.Equal(a.C, b.C) && slices.Equal(a.D, b.D) && slices.Equal(a.E, b.E) &&
		equalLists(a.Rows, b.Rows)
}

// equalLists: have two the same lists, in order?
func equalLists(a, b [][]int) bool {
	return slices.EqualFunc(a, b, func(l, k []int) bool { return slices.Equal(l, k) })
}
