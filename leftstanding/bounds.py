"""The bounds of what this package works on; more than they let is refused."""

MAX_HOUSES = 4
MAX_STATES = 8
MAX_ROWS = 12
MAX_TAKES = 4
MAX_SENDS = 6
MAX_SIGNS = 6
MAX_DEEDS = 200
MAX_STANDINGS = 4000
MAX_EDITS = 60
