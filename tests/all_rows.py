"""The rows of all functions, and what nothing wants but a parameter that is called hall."""

import rows
import rows_hall
import rows_joining
import rows_lists
import rows_seen
from oddlamps.hall import Hall

ROWS = rows.ROWS + rows_lists.ROWS + rows_joining.ROWS + rows_seen.ROWS + rows_hall.ROWS
NOTHINGS = rows.NOTHINGS + [rows_hall.HALL, [rows_hall.HALL], (Hall(), 0), {"hall": Hall()}]
