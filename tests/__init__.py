"""The tests of whoholds."""
