"""Many hands at one tree: their programs, and the steps by which they do them."""
