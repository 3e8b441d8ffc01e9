"""The shapes of trees: how many there are, and the trees of one."""
