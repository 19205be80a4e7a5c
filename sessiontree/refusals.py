"""The numbers that refuse a call. Where several are due, the one nearest to 0 is answered."""

OUT_OF_RANGE = -1
NOT_THERE = -4
NO_PLACE = -5
NO_SESSION = -7
