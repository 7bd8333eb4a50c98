package tap

// restOf follows what goes from state to state, up to the first state that comes again. It returns after how many ticks a part of the state never changes again, the part then, and whether it does rest.
func restOf[S, P comparable](state S, next func(S) S, partOf func(S) P) (int, P, bool) {
	firsts := map[S]int{} // the tick of each state
	rested := 0
	for tick := 0; ; tick++ {
		part := partOf(state)
		if first, is := firsts[state]; is {
			return rested, part, rested <= first // a change after the first time comes again, too
		}
		firsts[state] = tick
		state = next(state)
		if partOf(state) != part {
			rested = tick + 1
		}
	}
}
