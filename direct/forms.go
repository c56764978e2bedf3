package direct

import (
	"felucca/api"
	"felucca/check"
	"felucca/num"
)

// opWords is the first word of a directive, by its Op.
func opWords() []string {
	return []string{api.OpAdd: "a", api.OpDelete: "d", api.OpChange: "c"}
}

// kindWords is the second word of a directive, by its Kind.
func kindWords() []string {
	return []string{api.KindContact: "contact", api.KindRange: "range"}
}

// deed is what is done, and to what.
type deed struct {
	op, kind int
}

// form is what the directives of a deed have: their numbers, in the order of their words, how they are filled with such, and if one may be.
type form struct {
	numbers func(d api.Directive) []int
	fill    func(n []int) api.Directive
	may     func(d api.Directive) bool
}

func forms() map[deed]form {
	return map[deed]form{
		{api.OpAdd, api.KindContact}: {
			func(d api.Directive) []int {
				return []int{d.C.ID, d.C.From, d.C.To, d.C.Start, d.C.End, d.C.Rate}
			},
			func(n []int) api.Directive {
				return api.Directive{C: api.Contact{ID: n[0], From: n[1], To: n[2], Start: n[3], End: n[4], Rate: n[5]}}
			},
			func(d api.Directive) bool { return check.Contact(d.C) },
		},
		{api.OpDelete, api.KindContact}: {
			func(d api.Directive) []int { return []int{d.C.ID} },
			func(n []int) api.Directive { return api.Directive{C: api.Contact{ID: n[0]}} },
			func(d api.Directive) bool { return mayID(d.C.ID) },
		},
		{api.OpChange, api.KindContact}: {
			func(d api.Directive) []int { return []int{d.C.ID, d.C.Rate} },
			func(n []int) api.Directive { return api.Directive{C: api.Contact{ID: n[0], Rate: n[1]}} },
			func(d api.Directive) bool { return mayID(d.C.ID) && num.In(d.C.Rate, 1, api.MaxTime) },
		},
		{api.OpAdd, api.KindRange}: {
			func(d api.Directive) []int { return []int{d.R.From, d.R.To, d.R.Start, d.R.End, d.R.Owlt} },
			func(n []int) api.Directive {
				return api.Directive{R: api.Range{From: n[0], To: n[1], Start: n[2], End: n[3], Owlt: n[4]}}
			},
			func(d api.Directive) bool { return check.Range(d.R) },
		},
		{api.OpDelete, api.KindRange}: {
			func(d api.Directive) []int { return []int{d.R.From, d.R.To, d.R.Start} },
			func(n []int) api.Directive {
				return api.Directive{R: api.Range{From: n[0], To: n[1], Start: n[2]}}
			},
			func(d api.Directive) bool { return mayBegin(d.R) },
		},
		{api.OpChange, api.KindRange}: {
			func(d api.Directive) []int { return []int{d.R.From, d.R.To, d.R.Start, d.R.Owlt} },
			func(n []int) api.Directive {
				return api.Directive{R: api.Range{From: n[0], To: n[1], Start: n[2], Owlt: n[3]}}
			},
			func(d api.Directive) bool { return mayBegin(d.R) && num.In(d.R.Owlt, 0, api.MaxTime) },
		},
	}
}

func mayID(id int) bool {
	return num.In(id, 1, api.MaxID)
}

// mayBegin tells if a range may be of r's From and To, and begin at its Start.
func mayBegin(r api.Range) bool {
	return check.Node(r.From) && check.Node(r.To) && r.From != r.To && num.In(r.Start, 0, api.MaxTime-1)
}
