"""Programs of a network, alike for all packets."""
