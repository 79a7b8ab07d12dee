"""Gatebeats: beats counted in told gates."""
