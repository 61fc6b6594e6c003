package op

import "moot/api"

// A turning makes of a and b what a is behind b, and what b is behind a.
type turning func(a, b api.Op) (api.Op, api.Op)

// rules: for each pair of kinds, a's named first, how ops of these are turned.
type rules struct {
	nothingNothing turning
	nothingInsert  turning
	nothingDelete  turning
	insertNothing  turning
	insertInsert   turning
	insertDelete   turning
	deleteNothing  turning
	deleteInsert   turning
	deleteDelete   turning
}

func allRules() rules {
	return rules{
		nothingNothing: stay,
		nothingInsert:  stay,
		nothingDelete:  stay,
		insertNothing:  stay,
		insertInsert:   turnInserts,
		insertDelete:   turnInsertDelete,
		deleteNothing:  stay,
		deleteInsert:   turnDeleteInsert,
		deleteDelete:   turnDeletes,
	}
}

func (r rules) pick(a, b int) turning {
	switch a {
	case api.Insert:
		return byKind(b, r.insertNothing, r.insertInsert, r.insertDelete)
	case api.Delete:
		return byKind(b, r.deleteNothing, r.deleteInsert, r.deleteDelete)
	}
	return byKind(b, r.nothingNothing, r.nothingInsert, r.nothingDelete)
}

func byKind(kind int, nothing, insert, remove turning) turning {
	switch kind {
	case api.Insert:
		return insert
	case api.Delete:
		return remove
	}
	return nothing
}

// Turn turns two ops. It sets no bound to At, as ops that were turned may be past the one that callers have.
func Turn(a, b api.Op) (api.Op, api.Op) {
	return allRules().pick(a.Kind, b.Kind)(a, b)
}

func stay(a, b api.Op) (api.Op, api.Op) { return a, b }

func turnInserts(a, b api.Op) (api.Op, api.Op) {
	// At the same place the Site decides, so that both sides put the two bytes in the same order.
	if a.At < b.At || a.At == b.At && a.Site <= b.Site {
		b.At++
	} else {
		a.At++
	}
	return a, b
}

func turnInsertDelete(a, b api.Op) (api.Op, api.Op) {
	if a.At <= b.At {
		b.At++
	} else {
		a.At--
	}
	return a, b
}

func turnDeleteInsert(a, b api.Op) (api.Op, api.Op) {
	b, a = turnInsertDelete(b, a)
	return a, b
}

func turnDeletes(a, b api.Op) (api.Op, api.Op) {
	switch {
	case a.At > b.At:
		a.At--
	case a.At < b.At:
		b.At--
	default:
		// Both took the same byte: there is none left for either to take behind the other.
		return Nothing(a.Site), Nothing(b.Site)
	}
	return a, b
}

// Nothing makes the op that does nothing.
func Nothing(site int) api.Op { return api.Op{Kind: api.Nothing, Site: site} }
