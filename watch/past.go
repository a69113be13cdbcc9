package watch

import "tempo/logic"

// past is what O, H and S remember: in order, the times of the moments that
// may be the one for which they look.
type past struct {
	since []int
}

// held tells whether, at a distance within the interval, there was a moment at
// which begins was true, and lasts was true at all moments behind it.
func (p *past) held(within logic.Interval, now int, lasts, begins bool) bool {
	if !lasts {
		p.since = nil
	}
	if begins {
		p.since = append(p.since, now)
	}
	// Of those that are far enough the last one stays near enough the longest:
	// the others are not needed, so that no more wait than fit below Low.
	for len(p.since) > 1 && now-p.since[1] >= within.Low {
		p.since = p.since[1:]
	}
	return len(p.since) > 0 && within.Has(now-p.since[0])
}
