"""Matepoint: givers, takers and bearers who meet by what they wish."""
