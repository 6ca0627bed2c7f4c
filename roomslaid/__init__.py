"""Roomslaid: records laid into the cells of a room."""
