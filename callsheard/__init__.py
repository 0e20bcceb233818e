"""Callsheard: what rooms hear when nobody knows which doors are open."""
