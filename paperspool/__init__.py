"""A spool: listings on paper, sheet by sheet, wherever power is lost."""
