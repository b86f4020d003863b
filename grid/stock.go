package grid

import (
	"quintet/api"
	"quintet/rule"
	"quintet/table"
)

// stock is what all engines have: the table of the rules, and what is done where none of them matches. Its methods are not exported, so that an engine gives out none of them.
type stock struct {
	rows  *table.Table
	other api.Action
}

// draft is another table with the same rules, to be changed: if that is refused, the one that is kept is as it was.
func (s *stock) draft() *table.Table { return s.rows.Clone() }

// keep puts a draft into the place of the table.
func (s *stock) keep(next *table.Table) { s.rows = next }

// first is the verdict of the first match among the rules at the places in these lists, and how many of them were held against the header. Each list rises, so that no more of it is asked for once one of its rules matches, or stands behind one that does.
func (s *stock) first(lists [][]int, h api.Header) (api.Verdict, int) {
	verdict, held := api.Verdict{Action: s.other}, 0
	least := api.MaxRules // behind all places
	for _, list := range lists {
		for _, place := range list {
			if place > least {
				break
			}
			held++
			if r, _ := s.rows.At(place); rule.Match(r, h) {
				verdict, least = api.Verdict{Hit: true, Id: r.Id, Action: r.Action}, place
				break
			}
		}
	}
	return verdict, held
}
