package rules

import (
	"slices"

	"admission/api"
	"admission/pattern"
	"admission/snapshot"
)

// An application is a rule that is applied to one side of a step.
type application struct {
	rule     api.Rule
	self     api.Link
	examined []api.Entry // the side of self
	source   []api.Entry // the side of the step from which a MatchRule matches
}

// Apply applies the rules of l to the files of one side of self, in order, until one of them fails.
func Apply(l []api.Rule, products bool, self api.Link, done []api.Link) api.RuleResult {
	a := application{self: self, examined: side(self, products)}
	queue := make([]string, 0, len(a.examined))
	for _, x := range a.examined {
		queue = append(queue, x.Path)
	}
	for i, r := range l {
		a.rule, a.source = r, source(r, done)
		left, path, ok := a.apply(queue)
		if !ok {
			return api.RuleResult{Left: queue, Failed: i, Path: path}
		}
		queue = left
	}
	return api.RuleResult{Left: queue, Failed: -1}
}

func side(l api.Link, products bool) []api.Entry {
	if products {
		return l.Products
	}
	return l.Materials
}

// source returns the files with which r compares those of a step.
func source(r api.Rule, done []api.Link) []api.Entry {
	for _, l := range done {
		if l.Step == r.From {
			return side(l, r.Products)
		}
	}
	return nil
}

// apply returns what the rule leaves of queue, whose elements it moves. If the rule fails, it returns the path at fault and false, and queue stays as it is.
func (a application) apply(queue []string) (left []string, path string, ok bool) {
	if !Valid(a.rule) {
		return nil, "", false
	}
	concerns := a.concern()
	switch a.rule.Kind {
	case api.DisallowRule:
		if i := slices.IndexFunc(queue, concerns); i >= 0 {
			return nil, queue[i], false
		}
		return queue, "", true
	case api.RequireRule:
		return queue, "", slices.ContainsFunc(queue, concerns)
	}
	return slices.DeleteFunc(queue, concerns), "", true
}

// concern returns the method that reports whether the rule is about a path.
func (a application) concern() func(path string) bool {
	switch a.rule.Kind {
	case api.MatchRule:
		return a.isShared
	case api.CreateRule:
		return a.isCreated
	case api.ModifyRule:
		return a.isModified
	case api.DeleteRule:
		return a.isDeleted
	}
	return a.isMatched
}

func (a application) isMatched(path string) bool { return pattern.Match(a.rule.Pattern, path) }

func (a application) isCreated(path string) bool {
	return a.isMatched(path) && !has(a.self.Materials, path) && has(a.self.Products, path)
}

func (a application) isDeleted(path string) bool {
	return a.isMatched(path) && has(a.self.Materials, path) && !has(a.self.Products, path)
}

func (a application) isModified(path string) bool {
	if !a.isMatched(path) {
		return false
	}
	before, consumed := snapshot.Lookup(a.self.Materials, path)
	after, produced := snapshot.Lookup(a.self.Products, path)
	return consumed && produced && before != after
}

// isShared reports whether the source has the same file in its directory.
func (a application) isShared(path string) bool {
	rest, inside := pattern.Relocate(a.rule.In, "", path)
	if !inside || !pattern.Match(a.rule.Pattern, rest) {
		return false
	}
	moved, movable := pattern.Relocate(a.rule.In, a.rule.To, path)
	if !movable {
		return false
	}
	theirs, found := snapshot.Lookup(a.source, moved)
	ours, _ := snapshot.Lookup(a.examined, path)
	return found && theirs == ours
}

func has(s []api.Entry, path string) bool {
	_, ok := snapshot.Lookup(s, path)
	return ok
}
