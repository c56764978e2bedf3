package trial

import (
	"felucca/api"
	"felucca/ledger"
	"felucca/plan"
	"felucca/view"
)

// Plan is a right plan of so many nodes, with small numbers; not all of its contacts have a range.
func Plan(d *Dice, nodes, contacts int) api.Plan {
	p := plan.New()
	add := func(directive api.Directive) {
		directive.Op = api.OpAdd
		// What overlaps is left out.
		p, _ = plan.Apply(p, directive)
	}
	for from := 1; from <= nodes; from++ {
		for to := 1; to <= nodes; to++ {
			start := d.Throw(8) / 5
			add(api.Directive{Kind: api.KindRange, R: api.Range{From: from, To: to, Start: start, End: start + 12 + d.Throw(20), Owlt: d.Throw(3)}})
		}
	}
	for range contacts {
		from := 1 + d.Throw(nodes)
		start := d.Throw(15)
		add(api.Directive{Kind: api.KindContact, C: api.Contact{
			ID: 1 + d.Throw(40), From: from, To: 1 + (from+d.Throw(nodes-1))%nodes, Start: start, End: start + 1 + d.Throw(10), Rate: 1 + d.Throw(3),
		}})
	}
	p, _, _ = plan.Advance(p, d.Throw(5))
	return p
}

// Booked is a right ledger of what might be booked on p's contacts.
func Booked(d *Dice, p api.Plan) []api.Booked {
	var l []api.Booked
	for _, c := range p.Contacts {
		for range d.Throw(3) {
			class := d.Throw(api.Classes)
			l, _ = ledger.Book(l, c, class, d.Throw(1+ledger.Room(l, c, class)))
		}
	}
	return l
}

// Ways is all routes by which b may go, by any deadline, found by trying each contact.
func Ways(p api.Plan, l []api.Booked, b api.Bundle) []api.Route {
	return Routes(view.All(p, l, b.Class), b.From, b.To, p.Clock, b.Size, api.Far)
}
