"""The tests of middledots."""
