package samples

// Fill writes over lists, and their spare room.
func Fill[Item any](lists [][]Item, with Item) {
	for _, list := range lists {
		for i := range list[:cap(list)] {
			list[:cap(list)][i] = with
		}
	}
}

// Apart: do no two lists share any memory, be it spare room?
func Apart[Item any](lists [][]Item) bool {
	met := map[*Item]struct{}{}
	for _, list := range lists {
		for i := range list[:cap(list)] {
			at := &list[:cap(list)][i]
			if _, is := met[at]; is {
				return false
			}
			met[at] = struct{}{}
		}
	}
	return true
}
