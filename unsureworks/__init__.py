"""Unsureworks: reckoning exactly with numbers that are not known."""
