"""Unsaybook: findings, the answers given from them, and which of these are unsaid."""
