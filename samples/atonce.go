package samples

// AtOnce asks n questions one by one, and then all of them from eight sides at the same time: the number of one that is answered otherwise then, or -1. What is told of each is a text.
func AtOnce(n int, ask func(i int) string) int {
	var want []string
	for i := range n {
		want = append(want, ask(i))
	}
	wrong := make(chan int)
	for range 8 {
		go func() {
			bad := -1
			for i, text := range want {
				if ask(i) != text {
					bad = i
				}
			}
			wrong <- bad
		}()
	}
	bad := -1
	for range 8 {
		bad = max(bad, <-wrong)
	}
	return bad
}
