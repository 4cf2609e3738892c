"""The bounds of plans, of what is told about them, and of sheets."""

MAX_SIZE = 10 ** 30
MAX_PARTS = 24
MAX_INPUTS = 24
MAX_STAGES = 12
MAX_DEEP = 8
MAX_SETS = 4096
MAX_EDITS = 40
