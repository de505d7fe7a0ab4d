"""Nestlaid: boxes in boxes at one fixed place."""
