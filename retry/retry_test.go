package retry

import "testing"

func TestSane(t *testing.T) {
	for _, p := range []Plan{{1, 1, 0}, {1, 1, 100}, {1 << 20, 1 << 20, 5}, {1, 1 << 30, 5}, {3, 20, 5}} {
		if !Sane(p) {
			t.Error("may be", p)
		}
	}
	for _, p := range []Plan{{}, {0, 5, 1}, {-1, 5, 1}, {1<<20 + 1, 1 << 30, 1}, {5, 4, 1}, {5, 1<<30 + 1, 1}, {5, 9, -1}, {5, 9, 101}} {
		if Sane(p) {
			t.Error("may not be", p)
		}
		if d, ok := Delay(p, 0); d != 0 || ok {
			t.Error("delay", p)
		}
		if d, ok := Spread(p, 0, 1); d != 0 || ok {
			t.Error("spread", p)
		}
		if Total(p) != 0 || By(p, 1<<40) != 0 {
			t.Error("total, by", p)
		}
	}
}

func TestDelay(t *testing.T) {
	p := Plan{3, 20, 5}
	for n, want := range []int{3, 6, 12, 20, 20} {
		if d, ok := Delay(p, n); d != want || !ok {
			t.Error(n, d, ok)
		}
	}
	for _, n := range []int{-1, 5, 100, 1 << 62, -1 << 62} {
		if d, ok := Delay(p, n); d != 0 || ok {
			t.Error(n, d, ok)
		}
	}
	if d, ok := Delay(Plan{1 << 20, 1 << 30, 100}, 99); d != 1<<30 || !ok {
		t.Error(d, ok)
	}
	if _, ok := Delay(Plan{1, 1, 0}, 0); ok {
		t.Error("no tries")
	}
}

func TestTotal(t *testing.T) {
	for p, want := range map[Plan]int{{3, 20, 5}: 61, {3, 20, 0}: 0, {1, 1, 100}: 100, {1 << 20, 1 << 30, 100}: 1<<30*90 + (1<<30 - 1<<20)} {
		if got := Total(p); got != want {
			t.Error(p, got)
		}
	}
}

func TestBy(t *testing.T) {
	p := Plan{3, 20, 5}
	for at, want := range map[int]int{-1 << 62: 0, -1: 0, 0: 0, 2: 0, 3: 1, 8: 1, 9: 2, 20: 2, 21: 3, 40: 3, 41: 4, 60: 4, 61: 5, 1 << 62: 5} {
		if got := By(p, at); got != want {
			t.Error(at, got)
		}
	}
}

func TestSpread(t *testing.T) {
	p := Plan{3, 20, 5}
	for _, x := range []struct {
		n    int
		seed uint64
		want int
	}{{0, 0, 3}, {1, 1, spread(6, 2)}, {2, 1 << 63, spread(12, 1<<63+2)}, {3, 1<<64 - 1, spread(20, 2)}, {4, 12345, spread(20, 12349)}} {
		if d, ok := Spread(p, x.n, x.seed); d != x.want || !ok {
			t.Error(x, d, ok)
		}
	}
	// (1 + 0) times the number is 0x9E3779B97F4A7C15, mixed 0x9E3779B9E17D05AC: of 4 that is 0 more.
	if d, _ := Spread(Plan{6, 6, 1}, 0, 1); d != 6 {
		t.Error(d)
	}
	if d, _ := Spread(Plan{1000, 1000, 1}, 0, 1); d != 1000+0x9E3779B9E17D05AC%501 {
		t.Error(d)
	}
	for _, n := range []int{-1, 5, 1 << 62} {
		if d, ok := Spread(p, n, 7); d != 0 || ok {
			t.Error(n, d, ok)
		}
	}
}

// spread is what is to be told of a delay, by the document's words.
func spread(d int, sum uint64) int {
	x := sum * 0x9E3779B97F4A7C15
	x ^= x >> 32
	return d + int(x%uint64(d/2+1))
}

func TestDelaysDoNotFallNorGoBeyondMost(t *testing.T) {
	for _, p := range []Plan{{1, 1, 100}, {3, 20, 9}, {7, 1 << 30, 100}, {1 << 20, 1 << 21, 50}} {
		last := 0
		for n := range p.Tries {
			d, ok := Delay(p, n)
			if !ok || d < last || d > p.Most {
				t.Fatal(p, n, d)
			}
			last = d
			for seed := range uint64(50) {
				if s, ok := Spread(p, n, seed*0x123456789ABCDEF); !ok || s < d || s > d+d/2 {
					t.Fatal(p, n, seed, s)
				}
			}
		}
	}
}
