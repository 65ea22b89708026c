"""The tests of growntexts."""
