"""The greatest numbers and depths that the document allows."""

MAX_SYMBOLS = 5
MAX_FIELDS = 4
MAX_ARRAYS = 3
MAX_PARTS = 12
MAX_DEPTH = 4
MAX_STATEMENTS = 40
MAX_MOVES = 5
MAX_IFS = 4
MAX_FACTS = 150
MAX_KEPT = 8
MAX_PREMISES = 5
