"""Rolereach: who has which right, and what a team of roles can ever bring about."""
