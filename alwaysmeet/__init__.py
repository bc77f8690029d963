"""Alwaysmeet: lots of houses that always meet."""
