"""The bounds that the document gives."""

MAX_ROOMS = 8
MAX_PEOPLE = 12
MAX_PLAN = 4000
MAX_COUNT = 1_000_000_000_000
MAX_ACTIONS = 60
MAX_BATCH = 20
