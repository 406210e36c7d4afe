package goal

import "testing"

func TestKind(t *testing.T) {
	for _, c := range []struct{ own, want row }{
		{row{0, 0, 0}, row{0, 0, 0}},
		{row{-9, -8, -7}, row{-1, -2, -3}},
		{row{-4, -5, -4}, row{-1, -2, -1}},
		{row{7, -5, -5}, row{7, -2, -2}},
		{row{-2, -1, 3}, row{-1, -2, 3}},
		{row{-6, 0, -6}, row{-1, 0, -1}},
	} {
		if got := c.own.kind(); got != c.want {
			t.Errorf("%v.kind() = %v, want %v", c.own, got, c.want)
		}
		if got := c.own.kind().kind(); got != c.want {
			t.Errorf("%v, of the kind %v, is of another kind than itself", c.want, got)
		}
	}
}

func TestFit(t *testing.T) {
	for _, c := range []struct {
		head, body, question row
		wantHead, wantBody   row
		want                 bool
	}{
		{row{1, 2, 0}, row{1, 2, 0}, row{1, 2, 0}, row{1, 2, 0}, row{1, 2, 0}, true},
		{row{1, 2, 0}, row{}, row{1, 3, 0}, row{}, row{}, false},
		{row{-4, -5, 0}, row{-5, -4, -6}, row{7, -2, 0}, row{7, -2, 0}, row{-2, 7, -6}, true},
		{row{-4, -4, 0}, row{-4, -5, 0}, row{-1, -2, 0}, row{-2, -2, 0}, row{-2, -5, 0}, true},
		{row{-4, -4, 0}, row{-4, -5, 0}, row{-1, 7, 0}, row{7, 7, 0}, row{7, -5, 0}, true},
		{row{-4, -4, 0}, row{}, row{6, 7, 0}, row{}, row{}, false},
		{row{-4, -5, 0}, row{-4, -5, 0}, row{-1, -1, 0}, row{-5, -5, 0}, row{-5, -5, 0}, true},
		{row{7, -5, -5}, row{-5, 0, 0}, row{-1, -1, -3}, row{7, 7, 7}, row{7, 0, 0}, true},
		{row{7, -5, 8}, row{}, row{-1, -1, -1}, row{}, row{}, false},
		{row{7, 8, 0}, row{}, row{-1, -1, 0}, row{}, row{}, false},
		{row{7, 8, 0}, row{}, row{-1, -2, 0}, row{7, 8, 0}, row{}, true},
	} {
		whole := rule{head: atom{terms: c.head}, count: 1, positive: 1}
		whole.body[0].terms = c.body
		got, ok := whole.fit(c.head, c.question)
		if ok != c.want || ok && (got.head.terms.kind() != c.wantHead.kind() || got.body[0].terms.kind() != c.wantBody.kind()) {
			t.Errorf("%v:-%v with %v: %v:-%v, %v", c.head, c.body, c.question, got.head.terms, got.body[0].terms, ok)
		}
		if whole.head.terms != c.head || whole.body[0].terms != c.body {
			t.Errorf("fit changes the rule it was given: %v", whole)
		}
	}
}
