package term

import "gudgeon/api"

// asks is what an operation asks: at least and at most how many parts, of which sorts, and its own
// sort. Where it asks for none at most, it is no operation of the chapter's table.
type asks struct {
	least, most uint8
	parts       sorts
	own         uint8
}

// sorts are those of the first part, of the second one, and of all behind these.
type sorts [3]uint8

// What stands in the table. What is alike is of the sort of the last part, whichever that is.
const (
	alike  = 0
	truth  = api.SortBool
	number = api.SortInt
	text   = api.SortStr
	many   = api.MaxArgs
)

// asked is what each operation asks.
var asked = [api.Ops]asks{
	api.OpNot:      {1, 1, sorts{truth}, truth},
	api.OpAnd:      {2, many, sorts{truth, truth, truth}, truth},
	api.OpOr:       {2, many, sorts{truth, truth, truth}, truth},
	api.OpImplies:  {2, many, sorts{truth, truth, truth}, truth},
	api.OpXor:      {2, many, sorts{truth, truth, truth}, truth},
	api.OpEq:       {2, many, sorts{alike, alike, alike}, truth},
	api.OpDistinct: {2, many, sorts{alike, alike, alike}, truth},
	api.OpIte:      {3, 3, sorts{truth, alike, alike}, alike},
	api.OpNeg:      {1, 1, sorts{number}, number},
	api.OpAdd:      {2, many, sorts{number, number, number}, number},
	api.OpSub:      {2, many, sorts{number, number, number}, number},
	api.OpMul:      {2, many, sorts{number, number, number}, number},
	api.OpLe:       {2, many, sorts{number, number, number}, truth},
	api.OpLt:       {2, many, sorts{number, number, number}, truth},
	api.OpGe:       {2, many, sorts{number, number, number}, truth},
	api.OpGt:       {2, many, sorts{number, number, number}, truth},
	api.OpConcat:   {2, many, sorts{text, text, text}, text},
	api.OpLen:      {1, 1, sorts{text}, number},
	api.OpAt:       {2, 2, sorts{text, number}, text},
	api.OpSubstr:   {3, 3, sorts{text, number, number}, text},
	api.OpPrefix:   {2, 2, sorts{text, text}, truth},
	api.OpSuffix:   {2, 2, sorts{text, text}, truth},
	api.OpContains: {2, 2, sorts{text, text}, truth},
	api.OpIndex:    {3, 3, sorts{text, text, number}, number},
	api.OpReplace:  {3, 3, sorts{text, text, text}, text},
}

// part is the sort that is asked of the part i, if the last part is of the sort last.
func (a asks) part(i, last int) int { return fixed(a.parts[min(i, len(a.parts)-1)], last) }

// sort is the operation's own sort, if the last part is of the sort last.
func (a asks) sort(last int) int { return fixed(a.own, last) }

// fixed is what a sort of the table is, if the last part is of the sort last.
func fixed(sort uint8, last int) int {
	if sort == alike {
		return last
	}
	return int(sort)
}
