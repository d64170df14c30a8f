package tiles

import "testing"

// checkThereAndBack asks of a text that is read whether it is the map's.
func checkThereAndBack(t *testing.T, s string) {
	t.Helper()
	m, _, e := Read(s)
	if e != 0 {
		t.Fatalf("%q isn't read: %d", s, e)
	}
	if !Formed(m) {
		t.Fatalf("what is read from %q isn't formed: %v", s, m)
	}
	if got, e := Text(m); got != s || e != 0 {
		t.Fatalf("%q is read, and its map has the text %q, %d", s, got, e)
	}
}

func TestATextThatIsReadIsTheMaps(t *testing.T) {
	for s := range written() {
		checkThereAndBack(t, s)
	}
	for _, s := range smallTexts() {
		checkThereAndBack(t, s)
	}
	for _, s := range texts() {
		checkThereAndBack(t, s)
	}
}

func TestAMapIsWhatItsTextIs(t *testing.T) {
	for _, s := range texts() {
		m := mapOf(s)
		got, e := Text(m)
		if e != 0 {
			t.Fatalf("%v has no text: %d", m, e)
		}
		checkRead(t, got, m)
	}
}

// Each side with each other one.
func TestThereAndBackOfAllSides(t *testing.T) {
	r := rule(5)
	for h := 1; h <= side; h++ {
		for w := 1; w <= side; w++ {
			checkThereAndBack(t, r.text(w, h))
		}
	}
}

// No other text is the same map's, however near it is.
func TestNoOtherTextIsTheMaps(t *testing.T) {
	r := rule(9)
	for _, s := range texts() {
		want := mapOf(s)
		for range 40 {
			i := r.below(len(s))
			b := []byte(s)
			b[i] ^= byte(1 + r.below(255))
			if m, _, e := Read(string(b)); e == 0 && same(m, want) {
				t.Fatalf("%q and %q are one map's", s, b)
			}
		}
	}
}
