package api

import "testing"

func TestErrorsAndLimitsAreTheDocuments(t *testing.T) {
	for i, errno := range []Errno{OK, ErrLimit, ErrSyntax, ErrArity, ErrUnsafe, ErrLayers, ErrGround, ErrTwice, ErrNone} {
		if int(errno) != i {
			t.Errorf("the error named at %d is %d", i, errno)
		}
	}
	limits := [...]int{MaxText, MaxClauses, MaxBody, MaxArgs, MaxWord, MaxWork}
	if limits != [...]int{2000, 40, 4, 3, 12, 2000} {
		t.Errorf("the limits are %v", limits)
	}
}
