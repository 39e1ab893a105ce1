package pick

import "cmp"

// line is what container/heap works on. It has a type of its own, so that the methods that heap.Interface asks for are none of Heap's.
type line struct {
	items []Item
	// place: where in items each ID stands; Fix and Remove ask for it.
	place map[int]int
}

// Len: for heap.Interface.
func (l *line) Len() int { return len(l.items) }

// Less: for heap.Interface.
func (l *line) Less(a, b int) bool { return compare(l.items[a], l.items[b]) < 0 }

// Swap: for heap.Interface.
func (l *line) Swap(a, b int) {
	l.items[a], l.items[b] = l.items[b], l.items[a]
	l.place[l.items[a].ID] = a
	l.place[l.items[b].ID] = b
}

// Push: for heap.Interface.
func (l *line) Push(x any) {
	if l.place == nil {
		l.place = map[int]int{}
	}
	item := x.(Item)
	l.place[item.ID] = len(l.items)
	l.items = append(l.items, item)
}

// Pop: for heap.Interface.
func (l *line) Pop() any {
	end := len(l.items) - 1
	item := l.items[end]
	l.items = l.items[:end]
	delete(l.place, item.ID)
	return item
}

// compare holds keys, and then IDs, against each other: no two items are equal.
func compare(a, b Item) int {
	return cmp.Or(cmp.Compare(a.Key, b.Key), cmp.Compare(a.ID, b.ID))
}
