"""Twinrounds: small worlds, what is said of them, and two hands that tell them apart."""
