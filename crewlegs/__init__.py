"""Crews: legs, duties, rests, rosters that keep rules."""
