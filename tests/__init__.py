"""The tests of sameontrees."""
