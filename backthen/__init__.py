"""Tales told out of order, their timelines, and what listeners know."""
