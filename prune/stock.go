package prune

import (
	"quintet/api"
	"quintet/rule"
	"quintet/table"
)

// stock is what all engines have: the table of the rules, and what is done where none of them matches. Its methods are not exported, so that an engine gives out none of them.
type stock struct {
	rows  *table.Table
	other api.Action
}

// draft is another table with the same rules, to be changed: if that is refused, the one that is kept is as it was.
func (s *stock) draft() *table.Table { return s.rows.Clone() }

// keep puts a draft into the place of the table.
func (s *stock) keep(next *table.Table) { s.rows = next }

// first holds the rules at these places against a header, one behind the other till one matches, and tells how many that were.
func (s *stock) first(places []int, h api.Header) (api.Verdict, int) {
	for i, place := range places {
		if r, _ := s.rows.At(place); rule.Match(r, h) {
			return api.Verdict{Hit: true, Id: r.Id, Action: r.Action}, i + 1
		}
	}
	return api.Verdict{Action: s.other}, len(places)
}
