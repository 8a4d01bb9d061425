"""The tests of Openchange."""
