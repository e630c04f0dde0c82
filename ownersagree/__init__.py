"""Which copied columns agree after every history of calls."""
