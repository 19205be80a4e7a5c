"""The numbers that refuse a call. Where several are due, the one nearest to 0 is answered."""

OUT_OF_RANGE = -1
NO_SAVE = -2
WRONG_SUM = -3
HERE_WOULD_GO = -3
NOT_THERE = -4
NO_PLACE = -5
WAYS_TOUCH = -6
NO_SESSION = -7
