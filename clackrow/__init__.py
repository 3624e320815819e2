"""Clackrow: balls on a line and in a box, exactly and for ever."""
