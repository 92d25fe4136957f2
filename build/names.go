package build

import (
	"strings"

	"gudgeon/api"
)

// Reserved tells whether a name is one that nobody may have.
func Reserved(name string) bool {
	switch name {
	case "true", "false", let, "forall", "exists", "match", "par", "!", "_", "as", "div", "mod", "abs":
		return true
	}
	return operation(name, 0) != 0 || strings.HasPrefix(name, "str.") || strings.HasPrefix(name, "re.")
}

// let is what a list begins with that binds names.
const let = "let"

// operation is the one that has a name and so many parts, be they too few or too many for it; 0, if none has the name.
func operation(name string, parts int) int {
	switch name {
	case "not":
		return api.OpNot
	case "and":
		return api.OpAnd
	case "or":
		return api.OpOr
	case "=>":
		return api.OpImplies
	case "xor":
		return api.OpXor
	case "=":
		return api.OpEq
	case "distinct":
		return api.OpDistinct
	case "ite":
		return api.OpIte
	case "+":
		return api.OpAdd
	case "-":
		if parts == 1 {
			return api.OpNeg
		}
		return api.OpSub
	case "*":
		return api.OpMul
	case "<=":
		return api.OpLe
	case "<":
		return api.OpLt
	case ">=":
		return api.OpGe
	case ">":
		return api.OpGt
	}
	return textOperation(name)
}

// textOperation is the operation of texts that has a name; 0, if none has.
func textOperation(name string) int {
	switch name {
	case "str.++":
		return api.OpConcat
	case "str.len":
		return api.OpLen
	case "str.at":
		return api.OpAt
	case "str.substr":
		return api.OpSubstr
	case "str.prefixof":
		return api.OpPrefix
	case "str.suffixof":
		return api.OpSuffix
	case "str.contains":
		return api.OpContains
	case "str.indexof":
		return api.OpIndex
	case "str.replace":
		return api.OpReplace
	}
	return 0
}

// nameOf is the name that an s-expression is, and whether it is one.
func nameOf(x api.Sexp) (string, bool) {
	if x.List || x.Tok.Kind != api.TokSymbol {
		return "", false
	}
	return x.Tok.Text, true
}

// paramNames is the names of parameters, in order.
func paramNames(l []api.Param) []string {
	var names []string
	for _, p := range l {
		names = append(names, p.Name)
	}
	return names
}

// twice tells whether a name is there twice.
func twice(names []string) bool {
	seen := map[string]int{}
	for _, name := range names {
		seen[name]++
		if seen[name] > 1 {
			return true
		}
	}
	return false
}
