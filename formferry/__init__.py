"""Papers ferried from form to form, and whether all of them arrive."""
