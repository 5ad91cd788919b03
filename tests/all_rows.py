"""The rows of all functions, and what nothing wants."""

import rows
import rows_joining
import rows_lists
import rows_seen

ROWS = rows.ROWS + rows_lists.ROWS + rows_joining.ROWS + rows_seen.ROWS
NOTHINGS = rows.NOTHINGS
