"""Stayopen: a store on a ring of hosts that never stops for a change."""
