"""Nearsteps: several numbers rounded at once, by one finite list of steps."""
