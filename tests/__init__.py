"""The tests of unsureworks."""
