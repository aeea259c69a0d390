"""Meetwall: hands that meet at walls and by boxes, and what comes of every weaving of their deeds."""
