"""Windows of overlapping audio frames, and the hops at which they join without seams."""
