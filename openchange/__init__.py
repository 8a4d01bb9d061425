"""Openchange: a database whose tables change their shape while it is in use."""
