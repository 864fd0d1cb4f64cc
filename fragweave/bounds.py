"""The limits of what is handed in and returned."""

SIZE = 5000
PIECES = 2000
VALUE = 1000000
STATES = 6
FALSE = 6
TRUE = 200
BATCH = 20
