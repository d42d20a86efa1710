"""Onwardlines: lines whose headways divide one another."""
