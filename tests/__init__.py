"""The tests of beadway."""
