"""The rows of all functions, and what nothing wants."""

import rows
import rows_joining
import rows_lists

ROWS = rows.ROWS + rows_lists.ROWS + rows_joining.ROWS
NOTHINGS = rows.NOTHINGS
