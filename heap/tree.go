package heap

// has tells whether an item is there. The tree is asked, not the item: so an item need not know its heap, nor that it is gone.
func (h *Heap[T]) has(i *Item[T]) bool {
	return i != nil && i.at < len(h.items) && h.items[i.at] == i
}

// ahead tells whether an item goes ahead of another one. As the earlier one gives way only to what is less, less is asked once.
func (h *Heap[T]) ahead(i, j *Item[T]) bool {
	if i.rank < j.rank {
		return !h.less(j.thing, i.thing)
	}
	return h.less(i.thing, j.thing)
}

func (h *Heap[T]) put(i *Item[T], at int) {
	h.items[at] = i
	i.at = at
}

func (h *Heap[T]) swap(i, j *Item[T]) {
	at := i.at
	h.put(i, j.at)
	h.put(j, at)
}

// cutLast takes the last item off the tree, and leaves nothing of it behind.
func (h *Heap[T]) cutLast() *Item[T] {
	end := len(h.items) - 1
	last := h.items[end]
	h.items[end] = nil
	h.items = h.items[:end]
	return last
}

// settle moves an item to where it belongs, while all others stand right.
func (h *Heap[T]) settle(i *Item[T]) {
	if !h.rise(i) {
		h.sink(i)
	}
}

// rise moves an item up, as far as it goes ahead of those above it, and tells whether it was moved.
func (h *Heap[T]) rise(i *Item[T]) bool {
	from := i.at
	for i.at > 0 {
		above := h.items[(i.at-1)/2]
		if !h.ahead(i, above) {
			break
		}
		h.swap(i, above)
	}
	return i.at != from
}

// sink moves an item down, as far as one below goes ahead of it.
func (h *Heap[T]) sink(i *Item[T]) {
	for {
		below := h.firstBelow(i)
		if below == nil || !h.ahead(below, i) {
			return
		}
		h.swap(i, below)
	}
}

// firstBelow gives the one that goes ahead of the other, of the two right below an item; nil, if none is below it.
func (h *Heap[T]) firstBelow(i *Item[T]) *Item[T] {
	left := 2*i.at + 1
	if left >= len(h.items) {
		return nil
	}
	if left+1 < len(h.items) && h.ahead(h.items[left+1], h.items[left]) {
		return h.items[left+1]
	}
	return h.items[left]
}
