"""The numbers that stand in place of an answer when a call is refused."""

NO_SUCH_NODE = -1
WRONG_NUMBER = -2
NOT_A_STOP = -3
# Of check and bound the document tells the same number for a row that doesn't fit.
WRONG_ROW = -3
NO_ROOM = -4
NO_SUCH_LINE = -5
JOINED_ALREADY = -6
NO_SUCH_TRAIN = -7
NO_SUCH_ROUTE = -8
TOO_MANY_WAYS = -9
TOO_MANY_RUNS = -10
