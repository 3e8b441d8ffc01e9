"""Records of deeds with their times, and the orders in which they may have been done."""
